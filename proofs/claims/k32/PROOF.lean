import PyProof.Rows.All
import Wide.All
import OpenK.AllK
import Wide.FinOn
import Lean
import PyProof.EqAt
import PyProof.EqKinds
import PyProof.TupleCall
import KE.KUnpack
import PyProof.ListRange
import PyProof.TupleOfGen
import PyProof.NeKinds
import KE.KRevIter
import PyProof.FactsAll.range_2
import KE.KTryMore
import PyProof.IsRules
import PyProof.IsInstanceH
import PyProof.ReprRoads
import PyProof.CallStr
import KE.KSortTup
import PyProof.SumWalkG
import PyProof.WalksMore
import PyProof.SetRoads
import PySem.Challenge.RW_roundwords_k32_wide_counts
set_option Elab.async false
set_option linter.all false
set_option maxRecDepth 100000
set_option maxHeartbeats 4000000
noncomputable section
local macro_rules|`(tactic|trivial)=>`(tactic|first|exact .inl rfl|exact .inr rfl|assumption)
local macro_rules|`(⋯)=>`((by rfl))
set_option hygiene false in
local macro_rules | `($a>=>$b) => `(@ybm _ _ _ _ _ $a $b ⋯)
set_option hygiene false in
local macro_rules | `($a<=<$b) => `(@ygP _ _ _ _ _ $a $b)
set_option hygiene false in
local macro_rules | `(~~~$a) => `(@yhV _ _ _ $a)
set_option hygiene false in
local macro_rules | `($a<$>$b) => `(@zdo _ _ _ _ _ _ _ _ _ _ _ $a hr (by decide) rfl $b (by decide) ⋯ ⋯)
set_option hygiene false in
local macro_rules | `($a|||$b|||$c) => `(@yhU _ _ _ _ _ _ _ _ $a $b $c)
set_option hygiene false in
local macro_rules | `($a&&&$b) => `(@ycV _ _ $a _ $b rfl (by trivial) (by trivial))
set_option hygiene false in
local macro_rules | `($a<|>$b<|>$c) => `(@yh5 _ _ $a _ _ _ _ $b rfl (by trivial) $c ⋯ (by trivial))
set_option hygiene false in
local macro_rules | `($a<<<$b<<<$c) => `(@ziF _ _ _ _ _ _ _ $a $b $c (fun _ _ => rfl))
set_option hygiene false in
local macro_rules | `($a⁻¹) => `(@zh4 _ _ _ _ $a)
set_option hygiene false in
local macro_rules | `($a∩$b) => `(@ygT _ _ _ _ _ $a $b ⋯)
set_option hygiene false in
local macro_rules | `($a∪$b∪$c) => `(@yhh _ _ _ _ _ _ _ _ $a $b $c (ydi _))
set_option hygiene false in
local macro_rules | `($a>>>($s, $c, $d)) => `(@zgG _ _ _ _ _ _ _ _ _ $a rfl (B $s (by decide)) $c $d (by decide) (by decide) ⋯ ⋯)
set_option hygiene false in
local macro_rules | `($a<*($s, $c, $d)) => `(@yfZ _ _ _ _ _ _ _ _ _ $a rfl (B $s (by decide)) $c $d (by decide) (by decide) ⋯ ⋯)
set_option hygiene false in
local macro_rules | `($a*>($b, $c)) => `(@yiJ _ _ _ _ _ _ _ _ $a $b $c)
set_option hygiene false in
local macro_rules | `($a<&>($b, $c)) => `(@zh2 _ _ _ _ _ _ _ _ PassesOwn.never rfl $a $b $c (by intro _; rfl))
set_option hygiene false in
local macro_rules | `($a≈$b) => `(@zbO _ _ _ _ _ _ $a (@ycb _ _ _ _ _ _ rfl $b ⋯ ⋯) ⋯ ⋯ ⋯)
set_option hygiene false in
local macro_rules | `($s⊂$b) => `(@yhN _ _ _ _ _ rfl (B $s (by decide)) $b (id (α := RelV (.ty $s) (.type $s)) rfl) (by decide) (by decide))
set_option hygiene false in
local macro_rules | `($a⊃$b) => `(@zhz _ _ _ _ _ _ (yiA hr) $a $b (fun _ _ => rfl))
set_option hygiene false in
local macro_rules | `(↑$a) => `(@ydS _ _ _ _ _ _ rfl (B "range" (by decide)) $a ⋯)
set_option hygiene false in
local macro_rules | `($a⊆($b, $c, $d, $e, $f, $g, $h, $i)) => `(@zeM _ _ _ _ _ _ _ $a $b $c _ _ _ _ (id (α := CSc $d (zac $e) $a $b $c _) ⟨by rfl, by decide +kernel, by decide +kernel, by decide +kernel, by decide +kernel, by rfl, by decide +kernel⟩) rfl $f (fun cl C fp s H => $g) (fun _ _ _ _ _ => $h) (fun _ _ _ _ _ => $i) (by intro _; rfl))
set_option hygiene false in
local macro_rules | `($a⊇$b) => `(@ycV _ _ $a _ (by show List.Nodup ($b : List Str); decide +kernel) rfl (by trivial) (by trivial))
theorem zih:PySem.Challenge.rw_roundwords_k32_wide_counts.wellSaid=true:=by decide +kernel
section
namespace L2
inductive Ex2 (p:a0->a1->Prop):Prop|mk x0 x1 (h:p x0 x1):Ex2 p
inductive Ex3 (p:a0->a1->a2->Prop):Prop|mk x0 x1 x2 (h:p x0 x1 x2):Ex3 p
inductive Ex4 (p:a0->a1->a2->a3->Prop):Prop|mk x0 x1 x2 x3 (h:p x0 x1 x2 x3):Ex4 p
inductive Ex5 (p:a0->a1->a2->a3->a4->Prop):Prop|mk x0 x1 x2 x3 x4 (h:p x0 x1 x2 x3 x4):Ex5 p
inductive Ex6 (p:a0->a1->a2->a3->a4->a5->Prop):Prop|mk x0 x1 x2 x3 x4 x5 (h:p x0 x1 x2 x3 x4 x5):Ex6 p
inductive Ex7 (p:a0->a1->a2->a3->a4->a5->a6->Prop):Prop|mk x0 x1 x2 x3 x4 x5 x6 (h:p x0 x1 x2 x3 x4 x5 x6):Ex7 p
inductive Ex9 (p:a0->a1->a2->a3->a4->a5->a6->a7->a8->Prop):Prop|mk x0 x1 x2 x3 x4 x5 x6 x7 x8 (h:p x0 x1 x2 x3 x4 x5 x6 x7 x8):Ex9 p
end L2
open L2
namespace L2
open PySem PySem.Spec PyProof.Rows
abbrev Key:=Sum Int Str
def zfc:Key->Value->Bool
 | .inl k,v=>Value.isInt k v
 | .inr x,v=>Value.isStrOf x v
def keyH(w:World):Key->Int
 | .inl k=>hashInt k
 | .inr x=>hashStr w x
theorem zaw:∀ {k:Key} {v:Value},zfc k v=true->(Ex2 λi t=>k=Sum.inl i/\v=Value.int i t)\/(Ex2 λx t=>k=Sum.inr x/\v=Value.str x t)
 | .inl i,v,h=>by
  obtain⟨t,e⟩:=Value.isInt_shape (k:=i) (v:=v) h;exact .inl ⟨i,t,rfl,e⟩
 | .inr x,v,h=>by
  obtain⟨t,e⟩:=Value.isStrOf_shape (x:=x) (v:=v) h;exact .inr ⟨x,t,rfl,e⟩
theorem yf3(i:Int)(t:Tok):zfc (.inl i) (.int i t)=true:=by simp[zfc,Value.isInt]
theorem zfS(x:Str)(t:Tok):zfc (.inr x) (.str x t)=true:=by simp[zfc,Value.isStrOf]
theorem zif(a b:Int):decide ((Sum.inl a:Key)=Sum.inl b)=(a==b):=by
 by_cases e:a=b
 ·subst e;simp
 ·have h:¬ (Sum.inl a:Key)=Sum.inl b:=λq=>e (Sum.inl.inj q)
  rw[decide_eq_false h];exact(beq_eq_false_iff_ne.mpr e).symm
theorem yiu(a b:Str):decide ((Sum.inr a:Key)=Sum.inr b)=decide (a=b):=by
 by_cases e:a=b
 ·subst e;simp
 ·have h:¬ (Sum.inr a:Key)=Sum.inr b:=λq=>e (Sum.inr.inj q)
  rw[decide_eq_false h,decide_eq_false e]
theorem yia(a:Int)(b:Str):decide ((Sum.inl a:Key)=Sum.inr b)=false:=decide_eq_false (λq=>nomatch q)
theorem zit(a:Str)(b:Int):decide ((Sum.inr a:Key)=Sum.inl b)=false:=decide_eq_false (λq=>nomatch q)
noncomputable def zaA(prog:Program)(w:World):PySem.KeyKind prog w Key where
 is:=zfc
 hash:=keyH w
 inj:=λv a b ha hb=>by
  rcases zaw ha with⟨i,t,rfl,rfl⟩ |⟨x,t,rfl,rfl⟩
  ·rcases zaw hb with⟨j,u,rfl,e⟩ |⟨y,u,rfl,e⟩
   ·injection e with e1 _;rw[e1]
   ·exact nomatch e
  ·rcases zaw hb with⟨j,u,rfl,e⟩ |⟨y,u,rfl,e⟩
   ·exact nomatch e
   ·injection e with e1 _;rw[e1]
 byValue:=λk v h=>by
  rcases zaw h with⟨i,t,rfl,rfl⟩ |⟨x,t,rfl,rfl⟩ <;> rfl
 pyHash:=λhv h=>by
  rcases zaw hv with⟨i,t,rfl,rfl⟩ |⟨x,t,rfl,rfl⟩
  ·exact wpAny_pyHash_int h
  ·exact wpAny_pyHash_str h
 eqBool:=λhu hv h=>by
  rcases zaw hu with⟨i,t,rfl,rfl⟩ |⟨x,t,rfl,rfl⟩
  ·rcases zaw hv with⟨j,u,rfl,rfl⟩ |⟨y,u,rfl,rfl⟩
   ·rw[zif]at h;exact wpAny_eqBool_int h
   ·rw[yia]at h;exact SeqAt.EqAt.int_str i t y u _ _ _ _ h
  ·rcases zaw hv with⟨j,u,rfl,rfl⟩ |⟨y,u,rfl,rfl⟩
   ·rw[zit]at h;exact SeqAt.EqAt.str_int x t j u _ _ _ _ h
   ·rw[yiu]at h;exact wpAny_eqBool_str h
 «strs»:=λk x t v h=>by
  rcases zaw h with⟨i,u,rfl,e⟩ |⟨y,u,rfl,e⟩
  ·exact nomatch e
  ·injection e with e1 _;subst e1;cases v <;> rfl
theorem zem(prog:Program)(w:World)(i:Int)(t:Tok):(zaA prog w).is (.inl i) (.int i t)=true:=yf3 i t
theorem zeK(prog:Program)(w:World)(x:Str)(t:Tok):(zaA prog w).is (.inr x) (.str x t)=true:=zfS x t
end L2
namespace L2
open PySem PySem.Spec PyProof.Rows
inductive V where
 |non|bl (b:Bool)|int (i:Int)|str (x:Str)|byt (b:Array UInt8)|flt (b:UInt64)|ref (a:Addr)|ty (n:String)
 deriving DecidableEq
noncomputable def RelV:V->Value->Prop
 | .non,u=>u=Value.none
 | .bl b,u=>u=Value.bool b
 | .int i,u=>∃t,u=Value.int i t
 | .str x,u=>∃t,u=Value.str x t
 | .byt b,u=>∃t,u=Value.bytes b t
 | .flt b,u=>∃t,u=Value.float b t
 | .ref a,u=>u=Value.ref a
 | .ty n,u=>u=Value.type n
abbrev Vals:List V->List Value->Prop:=Paired RelV
theorem Vals.length(r:Vals xs us):xs.length=us.length:=Paired.length r
theorem Vals.get:∀ {xs:List V} {us:List Value} {i:Nat} {x:V},Vals xs us->xs[i]?=some x->∃u,us[i]?=some u/\RelV x u
 |_,_,_,_,.nil,e=>by simp at e
 |_,_,0,_,.cons r _,e=>by simp at e;subst e;exact⟨_,rfl,r⟩
 |_,_,i+1,x,.cons _ t,e=>by
  obtain⟨u,h1,h2⟩:=Vals.get (i:=i) (x:=x) t (by simpa using e);exact⟨u,by simpa using h1,h2⟩
theorem Vals.set(r:RelV x u):∀ {xs:List V} {us:List Value} (i:Nat),Vals xs us->Vals (xs.set i x) (us.set i u)
 |_,_,_,.nil=>.nil
 |_,_,0,.cons _ t=>.cons r t
 |_,_,i+1,.cons q t=>.cons q (Vals.set r i t)
theorem Vals.append:∀ {xs ys:List V} {us ws:List Value},Vals xs us->Vals ys ws->Vals (xs++ys) (us++ws)
 |_,_,_,_,.nil,s=>s
 |_,_,_,_,.cons r t,s=>.cons r (Vals.append t s)
theorem Vals.take:∀ {xs:List V} {us:List Value} (n:Nat),Vals xs us->Vals (xs.take n) (us.take n)
 |_,_,0,_=>.nil
 |_,_,_+1,.nil=>.nil
 |_,_,n+1,.cons r t=>.cons r (Vals.take n t)
theorem Vals.drop:∀ {xs:List V} {us:List Value} (n:Nat),Vals xs us->Vals (xs.drop n) (us.drop n)
 |_,_,0,r=>r
 |_,_,_+1,.nil=>.nil
 |_,_,n+1,.cons _ t=>Vals.drop n t
def RelO:Option V->Option Value->Prop
 |some v,some u=>RelV v u
 |none,none=>True
 |_,_=>False
def KV{κ:Type}:List (κ×V)->List (κ×Value)->Prop:=Paired λ(p:κ×V) (q:κ×Value)=>p.1=q.1/\RelV p.2 q.2
def kV:Key->V
 | .inl i=>.int i
 | .inr x=>.str x
inductive HO where
 |lst (xs:List V)
 |tup (xs:List V)
 |dK (kvs:List (Key×V))|dT (kvs:List (List Key×V))
 |set (S:Int->Bool) (n:Nat)
 |ins (C dx:Addr) (fs:List (Str×V))
 |own (x:Addr)
 |xd (fs:List (Str×V))
 |met (f x:Addr)
 |rng (lo hi:Int)
 |frz (o:Obj) (u:HO)
 |tbl (ps:Array Value)
 |ext (φ:Heap->Prop)
abbrev Hp:=Addr->Option HO
def upd(H:Hp)(a:Addr)(o:HO):Hp:=λb=>if b=a then some o else H b
theorem zaa:upd H a o a=some o:=by unfold upd;rw[if_pos rfl]
theorem zad{o:HO}(h:b≠a):upd H a o b=H b:=by unfold upd;rw[if_neg h]
theorem yf8:upd (upd H a o) a u=upd H a u:=by
 funext b;unfold upd;split <;> rfl
theorem yac{H:Hp}{a b:Addr}{o:HO}(h:H a=some o)(h':H b=none):a≠b:=by
 intro e;subst e;rw[h]at h';cases h'
section
variable (P:Program) (w:World)
noncomputable def za5(H:Hp)(h:Heap)(a:Addr):HO->Prop
 | .lst xs=>xs.length<=sizeLine/\Ex2 λ(its:List Value) (n:Nat)=>Vals xs its/\h.get? a=some { cls:=.type "list",data:=.seq its.toArray n }
 | .tup xs=>xs.length<=sizeLine/\∃its:List Value,Vals xs its/\IsTup h a its.toArray
 | .dK kvs=>kvs.length<=sizeLine/\(a==sysModules)=false/\∃vs,KV kvs vs/\h.DictOf (zaA P w) a vs
 | .dT kvs=>kvs.length<=sizeLine/\(a==sysModules)=false/\∃xs:List (List Key×Addr×Value),
   Paired (λ(p:List Key×V) (q:List Key×Addr×Value)=>p.1=q.1/\H q.2.1=some (.tup (p.1.map kV))/\RelV p.2 q.2.2) kvs xs/\
   Ex3 λo es ep=>h.get? a=some o/\o.ExactDict/\o.data = .dict es ep/\es.toList=xs.map (entryOfKey (tupleKind (zaA P w)))/\(xs.map (·.1)).Nodup
 | .set S n=>h.SetOf (intKind P w) a S n
 | .ins C dx fs=>H dx=some (.own a)/\fs.length<=1000/\dx≠a/\h.get? a=some (PySem.W.instObj C dx)/\
   ∃mA,h.Ns1 dx mA/\(∀f,RelO (fs.lookup f) (mA f))/\PySem.Within mA (fs.map (·.1))
 | .own _=>∃o,h.get? a=some o
 | .xd fs=>∃mA,h.Ns1 a mA/\∀f,RelO (fs.lookup f) (mA f)
 | .rng lo hi=>Ex3 λt u v=>h.get? a=some { cls:=.type "range",data:=.fields #[.int lo t,.int hi u,.int 1 v] }
 | .frz o u=>h.get? a=some o/\za5 H h a u
 | .tbl ps=>h.get? a=some { cls:=.none,data:=.fields ps }
 | .met f x=>h.get? a=some (PySem.W.methodObj (.ref f) (.ref x))
 | .ext φ=>φ h/\(∃o,h.get? a=some o)/\∀h1 h2:Heap,φ h1->(∀o,h1.get? a=some o->h2.get? a=some o)->φ h2
def HOk(H:Hp)(h:Heap):Prop:=∀a o,H a=some o->za5 P w H h a o
end
section
variable {P:Program} {w:World} {H H':Hp} {h h':Heap} {a:Addr} {o:HO}
theorem za5.lt(x:za5 P w H h a o):a<h.objs.size:=by
 cases o with
 |lst xs=>obtain⟨_,_,_,_,e⟩:=x;exact Heap.lt_size e
 |tup xs=>obtain⟨_,_,_,p⟩:=x;exact p.lt
 |dK kvs=>obtain⟨_,_,_,_,o,_,_,e,_⟩:=x;exact Heap.lt_size e
 |dT kvs=>obtain⟨_,_,_,_,o,_,_,e,_⟩:=x;exact Heap.lt_size e
 |set S n=>obtain⟨o,_,_,_,e,_⟩:=x;exact Heap.lt_size e
 |ins C dx fs=>obtain⟨_,_,_,e,_⟩:=x;exact Heap.lt_size e
 |own y=>obtain⟨_,e⟩:=x;exact Heap.lt_size e
 |xd fs=>obtain⟨_,⟨_,_,_,e,_⟩,_⟩:=x;exact Heap.lt_size e
 |rng lo hi=>obtain⟨_,_,_,e⟩:=x;exact Heap.lt_size e
 |frz ob u=>obtain⟨e,_⟩:=x;exact Heap.lt_size e
 |tbl ps=>exact Heap.lt_size (show h.get? a=some _ from x)
 |met f y=>exact Heap.lt_size (show h.get? a=some _ from x)
 |ext φ=>obtain⟨_,⟨_,e⟩,_⟩:=x;exact Heap.lt_size e
theorem Paired.mapP{α β:Type}{F G:α->β->Prop}:∀ {l₁:List α} {l₂:List β},Paired F l₁ l₂->(∀a b,F a b->G a b)->Paired G l₁ l₂
 |_,_,.nil,_=>.nil
 |_,_,.cons r t,f=>.cons (f _ _ r) (Paired.mapP t f)
theorem za5.stay(x:za5 P w H h a o)(k:∀b u,(b=a\/H b=some (.own a))->h.get? b=some u->h'.get? b=some u)
  (ho:∀b,H b=some (.own a)->H' b=some (.own a)) (ht:∀b xs,H b=some (.tup xs)->H' b=some (.tup xs)):za5 P w H' h' a o:=by
 induction o with
 |lst xs=>obtain⟨z,its,n,r,e⟩:=x;exact⟨z,its,n,r,k _ _ (.inl rfl) e⟩
 |tup xs=>obtain⟨z,its,r,ob,e,c⟩:=x;exact⟨z,its,r,ob,k _ _ (.inl rfl) e,c⟩
 |dK kvs=>obtain⟨z,y,vs,r,ob,es,ep,e,c⟩:=x;exact⟨z,y,vs,r,ob,es,ep,k _ _ (.inl rfl) e,c⟩
 |dT kvs=>
  obtain⟨z,y,xs,r,ob,es,ep,e,c⟩:=x;exact⟨z,y,xs,Paired.mapP r λp q z=>⟨z.1,ht _ _ z.2.1,z.2.2⟩,ob,es,ep,k _ _ (.inl rfl) e,c⟩
 |set S n=>obtain⟨ob,es,ep,t,e,c⟩:=x;exact⟨ob,es,ep,t,k _ _ (.inl rfl) e,c⟩
 |ins C dx fs=>
  obtain⟨d,z,ne,e,mA,⟨od,es,ep,e2,c⟩,r⟩:=x;exact⟨ho _ d,z,ne,k _ _ (.inl rfl) e,mA,⟨od,es,ep,k _ _ (.inr d) e2,c⟩,r⟩
 |own y=>obtain⟨ob,e⟩:=x;exact⟨ob,k _ _ (.inl rfl) e⟩
 |xd fs=>obtain⟨mA,⟨od,es,ep,e,c⟩,r⟩:=x;exact⟨mA,⟨od,es,ep,k _ _ (.inl rfl) e,c⟩,r⟩
 |rng lo hi=>obtain⟨t,u,v,e⟩:=x;exact⟨t,u,v,k _ _ (.inl rfl) e⟩
 |frz ob u ih=>obtain⟨e,q⟩:=x;exact⟨k _ _ (.inl rfl) e,ih q⟩
 |tbl ps=>
  have e:h.get? a=some { cls:=.none,data:=.fields ps }:=x;show h'.get? a=some { cls:=.none,data:=.fields ps };exact k a _ (.inl rfl) e
 |met f y=>
  have e:h.get? a=some (PySem.W.methodObj (.ref f) (.ref y)):=x;show h'.get? a=some (PySem.W.methodObj (.ref f) (.ref y));exact k a _ (.inl rfl) e
 |ext φ=>obtain⟨p,⟨o,e⟩,st⟩:=x;exact⟨st _ _ p λo q=>k _ _ (.inl rfl) q,⟨o,k _ _ (.inl rfl) e⟩,st⟩
theorem HOk.lt(x:HOk P w H h)(e:H a=some o):a<h.objs.size:=(x a o e).lt
theorem HOk.fresh(x:HOk P w H h)(e:h.objs.size<=a):H a=none:=by
 cases q:H a with
 |none=>rfl
 |some u=>exact absurd (Nat.lt_of_lt_of_le (x.lt q) e) (Nat.lt_irrefl _)
theorem HOk.kept(x:HOk P w H h)(k:∀b u,h.get? b=some u->h'.get? b=some u):HOk P w H h':=λa o e=>
 (x a o e).stay (λb u _ q=>k b u q) (λ_ q=>q) λ_ _ q=>q
theorem HOk.laid(x:HOk P w H h)(k:∀b u,h.get? b=some u->h'.get? b=some u)(hp:h.objs.size<=a)(new:za5 P w (upd H a o) h' a o):HOk P w (upd H a o) h':=λb u e=>by
 have hn:=x.fresh hp;by_cases hb:b=a
 ·subst hb;rw[zaa]at e;cases e;exact new
 ·rw[zad hb]at e;exact(x b u e).stay (λc v _ q=>k c v q) (λc q=>by rw[zad (yac q hn)];exact q) λc xs q=>by rw[zad (yac q hn)];exact q
end
def Rd(H:Hp)(a:Addr)(u:HO):Prop:=H a=some u\/∃o,H a=some (.frz o u)
theorem Rd.ok(r:Rd H a u)(x:HOk P w H h):za5 P w H h a u:=by
 rcases r with r |⟨o,r⟩
 ·exact x a u r
 ·obtain⟨_,q⟩:=x a _ r;exact q
noncomputable def Mut:Option HO->Prop
 |some (.lst _)=>True
 |some (.dK _)=>True
 |some (.dT _)=>True
 |some (.set _ _)=>True
 |some (.ins _ _ _)=>True
 |some (.ext _)=>True
 |_=>False
section
variable {P:Program} {w:World} {H:Hp} {h h':Heap} {x e:Addr} {o':HO}
theorem HOk.write(ok:HOk P w H h)(mu:Mut (H x))(he:e=x\/H e=some (.own x))(k:∀b u,b≠e->h.get? b=some u->h'.get? b=some u)(heo:∃u,h'.get? e=some u)
  (new:za5 P w (upd H x o') h' x o'):HOk P w (upd H x o') h':=λb u q=>by
 have nown:∀c y,H c=some (.own y)->c≠x:=λc y r z=>by subst z;rw[r]at mu;exact mu
 have ntup:∀c xs,H c=some (.tup xs)->c≠x:=λc xs r z=>by subst z;rw[r]at mu;exact mu
 by_cases hb:b=x
 ·subst hb;rw[zaa]at q;cases q;exact new
 ·rw[zad hb]at q;by_cases hbe:b=e
  ·have q':H b=some (.own x):=by
    rcases he with z|z
    ·exact absurd (hbe.trans z) hb
    ·rw[hbe];exact z
   rw[q]at q';cases q';obtain⟨v,hv⟩:=heo;exact⟨v,by rw[hbe];exact hv⟩
  ·refine(ok b u q).stay (λc v hc r=>k c v ?_ r) (λc r=>by rw[zad (nown c b r)];exact r) λc xs r=>by rw[zad (ntup c xs r)];exact r
   rcases hc with rfl|hc
   ·exact hbe
   ·rintro rfl;rcases he with z|z
    ·exact nown c b hc z
    ·rw[hc]at z;cases z;exact hb rfl
end
structure Un(fs ex:List Addr)(H H':Hp)(h h':Heap):Prop where
 keep:∀b o,h.get? b=some o->H b=none->b∉fs->b∉ex->h'.get? b=some o
 slot:∀b o,h.get? b=some o->H b=none->b∈fs->b∉ex->∃sl,h'.get? b=some { o with slots:=sl }
 free:∀b o,h.get? b=some o->H b=none->b∉ex->H' b=none
 there:∀b o,h.get? b=some o->b∉ex->∃o',h'.get? b=some o'
 tups:∀b xs,H b=some (.tup xs)->H' b=some (.tup xs)
 frzs:∀b o u,H b=some (.frz o u)->H' b=some (.frz o u)
 tbls:∀b ps,H b=some (.tbl ps)->∃more,H' b=some (.tbl (ps++more))
section
variable {fs fs' ex ex':List Addr} {H H1 H2:Hp} {h h1 h2 h':Heap} {a x e:Addr} {o:HO}
theorem Un.any(u:Un fs ex H H1 h h1)(q:h.get? b=some ob)(n:H b=none)(hx:b∉ex):∃sl,h1.get? b=some { ob with slots:=sl }:=by
 by_cases hb:b∈fs
 ·exact u.slot b ob q n hb hx
 ·exact⟨ob.slots,u.keep b ob q n hb hx⟩
theorem Un.kept(k:∀b u,h.get? b=some u->h'.get? b=some u):Un fs ex H H h h' :=
 ⟨λb ob q _ _ _=>k b ob q,λb ob q _ _ _=>⟨ob.slots,k b ob q⟩,λ_ _ _ n _=>n,λb ob q _=>⟨ob,k b ob q⟩,λ_ _ q=>q,λ_ _ _ q=>q,λ_ ps q=>⟨#[],by rw[q];simp⟩⟩
theorem Un.refl:Un fs ex H H h h:=Un.kept λ_ _ q=>q
theorem Un.laid(k:∀b u,h.get? b=some u->h'.get? b=some u)(hp:h.objs.size<=a)(hn:H a=none):Un fs ex H (upd H a o) h h' where
 keep:=λb u q _ _ _=>k b u q
 slot:=λb u q _ _ _=>⟨u.slots,k b u q⟩
 free:=λb u q n _=>by rw[zad (Nat.ne_of_lt (Nat.lt_of_lt_of_le (Heap.lt_size q) hp))];exact n
 there:=λb u q _=>⟨u,k b u q⟩
 tups:=λb xs q=>by rw[zad (yac q hn)];exact q
 frzs:=λb u xs q=>by rw[zad (yac q hn)];exact q
 tbls:=λb ps q=>⟨#[],by rw[zad (yac q hn),q];simp⟩
theorem Un.write(mu:Mut (H x))(he:e=x\/H e=some (.own x))(k:∀b u,b≠e->h.get? b=some u->h'.get? b=some u)(heo:∃u,h'.get? e=some u):Un fs ex H (upd H x o) h h':=by
 have hx:∀b,H b=none->b≠x:=λb n z=>by subst z;rw[n]at mu;exact mu
 have hb:∀b,H b=none->b≠e:=λb n z=>by
  subst z;rcases he with r|r
  ·exact hx b n r
  ·rw[n]at r;cases r
 have hm:∀b u,H b=some u->¬ Mut (some u)->b≠x:=λb u q nm z=>by subst z;rw[q]at mu;exact nm mu
 refine⟨λb u q n _ _=>k b u (hb b n) q,λb u q n _ _=>⟨u.slots,k b u (hb b n) q⟩,λb u q n _=>by rw[zad (hx b n)];exact n,λb u q _=>?_,
  λb xs q=>by rw[zad (hm b _ q λz=>z)];exact q,λb u xs q=>by rw[zad (hm b _ q λz=>z)];exact q,λb ps q=>⟨#[],by rw[zad (hm b _ q λz=>z),q];simp⟩⟩
 by_cases hbe:b=e
 ·subst hbe;exact heo
 ·exact⟨u,k b u hbe q⟩
end
def trk(h:Heap)(H:Hp):List Addr:=(List.range h.objs.size).filter λa=>(H a).isSome
def hidT(h:Heap)(H:Hp):Heap:=PySem.W.hideAll h (trk h H)
theorem ygk(h:Heap)(H:Hp):(hidT h H).objs.size=h.objs.size:=PySem.W.hideAll_size _ _
theorem zgO(e:h.get? b=some o)(n:H b=none):(hidT h H).get? b=some o :=
 PySem.W.hideAll_get _ e λhm=>by
  have q:(H b).isSome=true:=(List.mem_filter.mp hm).2;rw[n]at q;simp at q
theorem yhs(e:(hidT h H).get? b=some o):h.get? b=some o/\H b=none:=by
 have e':h.get? b=some o:=PySem.W.of_hideAll (trk h H) e;refine⟨e',?_⟩;cases q:H b with
 |none=>rfl
 |some x=>
  have hm:b∈trk h H:=List.mem_filter.mpr ⟨List.mem_range.mpr (Heap.lt_size e'),by simp[q]⟩;have z:(hidT h H).get? b=none:=PySem.W.hideAll_none (trk h H) hm;rw[z]at e;cases e
end L2
namespace L2
open PySem PySem.Spec PyProof.Rows
structure Mod(K:PySem.W.Frag)(mg:Str->Option Value)(base:Heap):Prop where
 kin:K.In base
 glob:base.Ns mainGlobals mg
 blt:∃mb,base.Ns builtinsNs mb/\∀x:Str,x≠"__name__"->mb x=bootBuiltins x
 nolimit:base.NoLimit
structure Cx where
 prog:Program
 w:World
 K:PySem.W.Frag
 mg:Str->Option Value
 base:Heap
 A:Around
 N:List Str
 s₀:Shared
 H₀:Hp
 env:Env
 outer:List Env
 stack:List Env
 ex:List Addr
 fn:Str->Bool
 calm:Bool
 pn:List (Addr×Obj)
 xe:Value->Shared->Prop
def frs(l:List Env):List Addr:=l.filterMap (·.frame)
abbrev Cx.fs(X:Cx):List Addr:=frs X.outer
noncomputable def Vis(sc:Scope)(x:Str):Prop:=sc.names.lookup x=some .local\/sc.names.lookup x=some .cell\/sc.names.lookup x=some .free
def Loc(sc:Scope)(x:Str):Prop:=sc.names.lookup x=some .local\/sc.names.lookup x=some .cell
noncomputable def Look(env:Env)(h:Heap)(m:Str->Option Value)(x:Str)(u:Value):Prop :=
 (env.kindOf x=some .local/\m x=some u)\/((env.kindOf x=some .cell\/env.kindOf x=some .free)/\∃c,env.cells.lookup x=some c/\h.IsCell c (some u))
structure Cx.Ok(X:Cx):Prop where
 mod:Mod X.K X.mg X.base
 kind:X.env.scope.kind = .function
 glob:X.env.globals=mainGlobals
 blt:X.env.builtins=builtinsNs
 above:X.s₀.heap.objs.size<=X.env.locals
 inj:∀x y c,X.env.cells.lookup x=some c->X.env.cells.lookup y=some c->x=y
 has:∀x,(X.env.kindOf x=some .cell\/X.env.kindOf x=some .free)->∃c,X.env.cells.lookup x=some c
 cab:∀x c,X.fn x=true->X.env.cells.lookup x=some c->X.s₀.heap.objs.size<=c
 hd:X.calm=true->X.A.handled=none
 frames:X.A.frames=some X.stack
 stk:X.stack=X.outer\/(X.stack=X.env::X.outer/\X.env.frame=some X.env.locals)
 exf:∀b∈X.ex,b≠X.env.locals/\∀x c,X.env.cells.lookup x=some c->c≠b
 bs:∀b o,X.base.get? b=some o->X.s₀.heap.get? b=some o/\X.H₀ b=none
 bsz:X.base.objs.size<=X.s₀.heap.objs.size
 noex:∀b o,X.base.get? b=some o->b∉X.ex
 exfs:∀b∈X.ex,b∉X.fs
 funs:X.s₀.heap.FunFrames X.base X.outer
 frf:∀b∈X.fs,X.H₀ b=none
structure Inv(X:Cx)(pins:List (Addr×Obj))(σ:List (Option V))(H:Hp)(s:Shared):Prop where
 ok:X.Ok
 os:s.os=X.s₀.os
 bare:AllBare s.gens
 base:Un X.fs X.ex X.H₀ H X.s₀.heap s.heap
 loc:∃m,s.heap.Ns X.env.locals m/\∀(i:Nat) (x:Str) (v:V),X.N[i]?=some x->σ[i]?=some (some v)->Vis X.env.scope x->∃u,RelV v u/\Look X.env s.heap m x u
 cell:∀x c,X.env.cells.lookup x=some c->∃v,s.heap.IsCell c v
 free:H X.env.locals=none
 freeC:∀x c,X.env.cells.lookup x=some c->H c=none
 pin:∀p∈X.pn++pins,s.heap.get? p.1=some p.2/\H p.1=none/\p.1≠X.env.locals/\p.1∉X.fs/\∀v,p.2.data≠.cell v
 hok:HOk X.prog X.w H s.heap
 len:σ.length=X.N.length
section
variable {X:Cx} {pins:List (Addr×Obj)} {σ:List (Option V)} {H H':Hp} {s:Shared} {h':Heap}
theorem Cx.Ok.nofr(ok:X.Ok)(e:X.base.get? b=some o):b∉X.fs:=λhb=>by
 have:=(ok.funs.mem hb).1;rw[e]at this;cases this
theorem Inv.bs(I:Inv X pins σ H s):∀b o,X.base.get? b=some o->s.heap.get? b=some o/\H b=none:=λb o e=>
 ⟨I.base.keep b o (I.ok.bs b o e).1 (I.ok.bs b o e).2 (I.ok.nofr e) (I.ok.noex b o e),I.base.free b o (I.ok.bs b o e).1 (I.ok.bs b o e).2 (I.ok.noex b o e)⟩
theorem Inv.bk(I:Inv X pins σ H s):∀b o,X.base.get? b=some o->s.heap.get? b=some o:=λb o e=>(I.bs b o e).1
theorem Inv.mod(I:Inv X pins σ H s):Mod X.K X.mg X.base:=I.ok.mod
theorem Inv.kIn(I:Inv X pins σ H s):X.K.In s.heap:=I.ok.mod.kin.keeps I.bk
theorem Inv.lt(I:Inv X pins σ H s):X.env.locals<s.heap.objs.size:=let ⟨_,hn,_⟩:=I.loc;hn.lt
theorem Inv.sz(I:Inv X pins σ H s):X.s₀.heap.objs.size<=s.heap.objs.size:=Nat.le_trans I.ok.above (Nat.le_of_lt I.lt)
theorem Inv.nofs(I:Inv X pins σ H s)(h:s.heap.objs.size<=a):a∉X.fs:=λhb=>by
 obtain⟨_,o,ho,_⟩:=I.ok.funs.mem hb;exact absurd (Nat.lt_of_lt_of_le (Heap.lt_size ho) (Nat.le_trans I.sz h)) (Nat.lt_irrefl _)
theorem Inv.cne(I:Inv X pins σ H s):∀x c,X.env.cells.lookup x=some c->c≠X.env.locals:=λx c e z=>by
 obtain⟨v,o,ho,hd⟩:=I.cell x c e;obtain⟨m,⟨o',es,ep,ho',hd',_⟩,_⟩:=I.loc;rw[z,ho']at ho;cases ho;rw[hd']at hd;cases hd
theorem Inv.funs(I:Inv X pins σ H s):s.heap.FunFrames X.base X.outer:=by
 have all:∀(l:List Env),(∀b∈frs l,b∈X.fs)->X.s₀.heap.FunFrames X.base l->s.heap.FunFrames X.base l:=by
  intro l
  induction l with
  |nil=>intro _ _;trivial
  |cons env r ih=>
   intro hs hl;obtain⟨hk,⟨L,o,hf,hn,ho,hd⟩,hr⟩:=hl;have hL:L∈X.fs:=hs L (by unfold frs;rw[List.filterMap_cons,hf];exact List.mem_cons_self);obtain⟨sl,e⟩:=I.base.slot L o ho (I.ok.frf L hL) hL λz=>I.ok.exfs L z hL
   exact⟨hk,⟨L,_,hf,hn,e,hd⟩,ih (λb hb=>hs b (by unfold frs;rw[List.filterMap_cons,hf];exact List.mem_cons_of_mem _ hb)) hr⟩
 exact all X.outer (λ_ hb=>hb) I.ok.funs
theorem Inv.stack(I:Inv X pins σ H s):s.heap.FunFrames X.base X.stack:=by
 rcases I.ok.stk with e |⟨e,hf⟩
 ·rw[e];exact I.funs
 ·rw[e];obtain⟨m,hn,_⟩:=I.loc;refine .cons (by rw[I.ok.kind];decide) hf hn ?_ I.funs;exact Heap.get?_none_of_le (Nat.le_trans I.ok.bsz I.ok.above)
theorem Inv.stkSub(I:Inv X pins σ H s):∀b∈frs X.stack,b∈X.env.locals::X.fs:=λb hb=>by
 rcases I.ok.stk with e |⟨e,hf⟩
 ·rw[e]at hb;exact List.mem_cons_of_mem _ hb
 ·rw[e]at hb;unfold frs at hb;rw[List.filterMap_cons,hf]at hb;exact hb
theorem Inv.stkFree(I:Inv X pins σ H s):∀b∈frs X.stack,H b=none:=λb hb=>by
 rcases List.mem_cons.mp (I.stkSub b hb) with e|hb
 ·rw[e];exact I.free
 ·obtain⟨_,o,ho,_⟩:=I.ok.funs.mem hb;exact I.base.free b o ho (I.ok.frf b hb) λz=>I.ok.exfs b z hb
theorem Inv.step{g':Array GenState}{t':Nat}{d':Drawn}{ch:List Addr}(I:Inv X pins σ H s)
  (hch:∀b∈ch,(b∈X.ex\/X.s₀.heap.objs.size<=b)/\b≠X.env.locals/\(∀x c,X.env.cells.lookup x=some c->c≠b)/\∀p∈X.pn++pins,p.1≠b)
  (keep:∀b o,b≠X.env.locals->b∉X.fs->b∉ch->s.heap.get? b=some o->H b=none->h'.get? b=some o)
  (slot:∀b o,b≠X.env.locals->b∈X.fs->b∉ch->s.heap.get? b=some o->H b=none->∃sl,h'.get? b=some { o with slots:=sl }) (free:∀b o,b∉ch->s.heap.get? b=some o->H b=none->H' b=none)
  (there:∀b o,b∉ch->s.heap.get? b=some o->∃o',h'.get? b=some o')
  (tups:∀b xs,H b=some (.tup xs)->H' b=some (.tup xs)) (frzs:∀b o u,H b=some (.frz o u)->H' b=some (.frz o u)) (tbls:∀b ps,H b=some (.tbl ps)->∃more,H' b=some (.tbl (ps++more)))
  (ns:∀m,s.heap.Ns X.env.locals m->h'.Ns X.env.locals m) (hok:HOk X.prog X.w H' h') (hg:AllBare g') :
  Inv X pins σ H' { s with heap:=h',gens:=g',drawn:=d',toks:=t' }:=by
 have neL:∀b o,X.s₀.heap.get? b=some o->b≠X.env.locals:=λb o e=>Nat.ne_of_lt (Nat.lt_of_lt_of_le (Heap.lt_size e) I.ok.above)
 have neC:∀b o,X.s₀.heap.get? b=some o->b∉X.ex->b∉ch:=λb o e hx hb=>by
  rcases(hch b hb).1 with z|z
  ·exact hx z
  ·exact absurd (Nat.lt_of_lt_of_le (Heap.lt_size e) z) (Nat.lt_irrefl _)
 have cellK:∀x c,X.env.cells.lookup x=some c->∀v,s.heap.IsCell c v->h'.IsCell c v:=λx c e v ⟨o,ho,hd⟩=>by
  have nch:c∉ch:=λz=>(hch c z).2.2.1 x c e rfl
  by_cases hc:c∈X.fs
  ·obtain⟨sl,q⟩:=slot c o (I.cne x c e) hc nch ho (I.freeC x c e);exact⟨_,q,hd⟩
  ·exact⟨o,keep c o (I.cne x c e) hc nch ho (I.freeC x c e),hd⟩
 refine⟨I.ok,I.os,hg,⟨λb o e n hb hx=>?_,λb o e n hb hx=>?_,λb o e n hx=>?_,λb o e hx=>?_,λb xs e=>tups b xs (I.base.tups b xs e),λb o xs e=>frzs b o xs (I.base.frzs b o xs e),λb ps e=>?_⟩,?_,λx c e=>?_,?_,λx c e=>?_,λp hp=>?_,hok,I.len⟩
 ·exact keep b o (neL b o e) hb (neC b o e hx) (I.base.keep b o e n hb hx) (I.base.free b o e n hx)
 ·obtain⟨sl,e1⟩:=I.base.slot b o e n hb hx;obtain⟨sl',e2⟩:=slot b _ (neL b o e) hb (neC b o e hx) e1 (I.base.free b o e n hx);exact⟨sl',e2⟩
 ·obtain⟨o',e1⟩:=I.base.there b o e hx;exact free b o' (neC b o e hx) e1 (I.base.free b o e n hx)
 ·obtain⟨o',e1⟩:=I.base.there b o e hx;exact there b o' (neC b o e hx) e1
 ·obtain⟨m1,e1⟩:=I.base.tbls b ps e;obtain⟨m2,e2⟩:=tbls b _ e1;exact⟨m1++m2,by rw[e2,Array.append_assoc]⟩
 ·obtain⟨m,hn,hl⟩:=I.loc;refine⟨m,ns m hn,λi x v e1 e2 e3=>?_⟩;obtain⟨u,r,l⟩:=hl i x v e1 e2 e3;refine⟨u,r,?_⟩;rcases l with l |⟨k,c,e,z⟩
  ·exact .inl l
  ·exact .inr ⟨k,c,e,cellK x c e _ z⟩
 ·obtain⟨v,z⟩:=I.cell x c e;exact⟨v,cellK x c e v z⟩
 ·obtain⟨m,⟨o,_,_,ho,_⟩,_⟩:=I.loc;exact free _ o (λz=>(hch _ z).2.1 rfl) ho I.free
 ·obtain⟨v,o,ho,hd⟩:=I.cell x c e;exact free c o (λz=>(hch c z).2.2.1 x c e rfl) ho (I.freeC x c e)
 ·obtain⟨e,n,ne,nf,d⟩:=I.pin p hp;have nch:p.1∉ch:=λz=>(hch p.1 z).2.2.2 p hp rfl
  exact⟨keep p.1 p.2 ne nf nch e n,free p.1 p.2 nch e n,ne,nf,d⟩
theorem Inv.un{t':Nat}(I:Inv X pins σ H s)(u:Un X.fs [] H H' s.heap h')(hok:HOk X.prog X.w H' h'):Inv X pins σ H' { s with heap:=h',toks:=t' }:=by
 obtain⟨m,⟨o,es,ep,ho,r⟩,_⟩:=id I.loc;obtain⟨sl,hL⟩:=u.any ho I.free (by simp);exact I.step (g':=s.gens) (d':=s.drawn) (ch:=[]) (λ_ z=>nomatch z) (λb o _ hb _ e n=>u.keep b o e n hb (by simp)) (λb o _ hb _ e n=>u.slot b o e n hb (by simp)) (λb o _ e n=>u.free b o e n (by simp)) (λb o _ e=>u.there b o e (by simp)) u.tups u.frzs u.tbls (λm' hm=>by
  obtain⟨o',es',ep',ho',r'⟩:=hm;rw[ho]at ho';cases ho';exact⟨_,es',ep',hL,r'⟩) hok I.bare
theorem Inv.call{g':Array GenState}{t':Nat}{d':Drawn}(I:Inv X pins σ H s)(u:Un (frs X.stack) ch H H' s.heap h')(hok:HOk X.prog X.w H' h')(hg:AllBare g')
  (hch:∀b∈ch,(b∈X.ex\/X.s₀.heap.objs.size<=b)/\b≠X.env.locals/\(∀x c,X.env.cells.lookup x=some c->c≠b)/\∀p∈X.pn++pins,p.1≠b) :
  Inv X pins σ H' { s with heap:=h',gens:=g',drawn:=d',toks:=t' }:=by
 obtain⟨m,⟨o,es,ep,ho,r⟩,_⟩:=id I.loc;obtain⟨sl,hL⟩:=u.any ho I.free λz=>(hch _ z).2.1 rfl
 exact I.step (ch:=ch) hch (λb o hL hb hc e n=>u.keep b o e n (λz=>(List.mem_cons.mp (I.stkSub b z)).elim hL hb) hc) (λb o _ _ hc e n=>u.any e n hc) (λb o hc e n=>u.free b o e n hc) (λb o hc e=>u.there b o e hc) u.tups u.frzs u.tbls (λm' hm=>by
  obtain⟨o',es',ep',ho',r'⟩:=hm;rw[ho]at ho';cases ho';exact⟨_,es',ep',hL,r'⟩) hok hg
theorem Inv.turned{t':Nat}(I:Inv X pins σ H s)(k:∀b o,b≠it->s.heap.get? b=some o->h'.get? b=some o)(hn:H it=none)(hL:it≠X.env.locals)
  (h1:it∈X.ex\/X.s₀.heap.objs.size<=it) (h2:∀x c,X.env.cells.lookup x=some c->c≠it) (h3:∀p∈X.pn++pins,p.1≠it):Inv X pins σ H { s with heap:=h',toks:=t' }:=by
 have nit:∀b u,H b=some u->b≠it:=λb u e z=>by rw[z,hn]at e;cases e
 refine I.step (g':=s.gens) (d':=s.drawn) (ch:=[it]) (λb hb=>?_) (λb o _ _ hc e _=>k b o (λz=>hc (by simp[z])) e) (λb o _ _ hc e _=>⟨o.slots,k b o (λz=>hc (by simp[z])) e⟩) (λ_ _ _ _ n=>n)
  (λb o hc e=>⟨o,k b o (λz=>hc (by simp[z])) e⟩) (λ_ _ e=>e) (λ_ _ _ e=>e) (λb ps e=>⟨#[],by rw[e];simp⟩) (λm hm=>?_) (λb u e=>?_) I.bare
 ·have e:b=it:=by simpa using hb
  subst e;exact⟨h1,hL,h2,h3⟩
 ·obtain⟨o,es,ep,ho,r⟩:=hm;exact⟨o,es,ep,k _ o (Ne.symm hL) ho,r⟩
 ·refine(I.hok b u e).stay (λc v hc q=>k c v ?_ q) (λ_ q=>q) λ_ _ q=>q
  rcases hc with z|z
  ·rw[z];exact nit b u e
  ·exact nit c _ z
theorem Inv.tok(I:Inv X pins σ H s)(t:Nat):Inv X pins σ H { s with toks:=t }:=I.un (h':=s.heap) (t':=t) Un.refl I.hok
theorem Inv.kept{t':Nat}(I:Inv X pins σ H s)(k:∀b u,s.heap.get? b=some u->h'.get? b=some u):Inv X pins σ H { s with heap:=h',toks:=t' }:=I.un (Un.kept k) (I.hok.kept k)
theorem Inv.laid{t':Nat}(I:Inv X pins σ H s)(k:∀b u,s.heap.get? b=some u->h'.get? b=some u)(hp:s.heap.objs.size<=a)(new:za5 X.prog X.w (upd H a o) h' a o) :
  Inv X pins σ (upd H a o) { s with heap:=h',toks:=t' }:=I.un (Un.laid k hp (I.hok.fresh hp)) (I.hok.laid k hp new)
theorem Inv.write{t':Nat}(I:Inv X pins σ H s)(mu:Mut (H x))(he:e=x\/H e=some (.own x))(k:∀b u,b≠e->s.heap.get? b=some u->h'.get? b=some u)(heo:∃u,h'.get? e=some u)
  (new:za5 X.prog X.w (upd H x o) h' x o):Inv X pins σ (upd H x o) { s with heap:=h',toks:=t' }:=I.un (Un.write mu he k heo) (I.hok.write mu he k heo new)
theorem Inv.pins_of(I:Inv X pins σ H s)(h:∀p∈pins',s.heap.get? p.1=some p.2/\H p.1=none/\p.1≠X.env.locals/\p.1∉X.fs/\∀v,p.2.data≠.cell v):Inv X pins' σ H s :=
 ⟨I.ok,I.os,I.bare,I.base,I.loc,I.cell,I.free,I.freeC,λp hp=>(List.mem_append.mp hp).elim (λz=>I.pin p (List.mem_append_left _ z)) (h p),I.hok,I.len⟩
theorem ze7{N:List Str}(hN:N.Nodup){i j:Nat}{x:Str}(a:N[i]?=some x)(b:N[j]?=some x):i=j:=by
 obtain⟨h1,e1⟩:=List.getElem?_eq_some_iff.mp a;obtain⟨h2,e2⟩:=List.getElem?_eq_some_iff.mp b;exact(List.getElem_inj hN).mp (e1.trans e2.symm)
theorem yfY{i:Nat}(I:Inv X pins σ H s)(hN:X.N.Nodup)(hi:X.N[i]?=some x)(hx:Loc X.env.scope x)(r:RelV v u)
  (h:∀s',Inv X pins (σ.set i (some v)) H s'->(∃a,Heap.SameBut a s.heap s'.heap/\(a=X.env.locals\/X.env.cells.lookup x=some a))->Q () s') (hf:X.fn x=true\/X.env.scope.names.lookup x=some .local:=by first|exact .inl rfl|exact .inr rfl|assumption):wpAny M A (storeName X.env x u) Q E s:=by
 obtain⟨m,hn,hl⟩:=id I.loc;have hcls:(X.env.scope.kind==.class||(X.env.scope.kind==.module&&X.env.locals != X.env.globals))=false:=by rw[I.ok.kind];rfl
 have hiσ:i < σ.length:=by rw[I.len];exact(List.getElem?_eq_some_iff.mp hi).1
 have cne:=I.cne;have tracked:∀ {a:Addr} {h':Heap},(∃o,s.heap.get? a=some o/\H a=none)->Heap.SameBut a s.heap h'->HOk X.prog X.w H h':=λ{a h'} ha hs b ob e=>by
  obtain⟨_,_,hfree⟩:=ha;refine(I.hok b ob e).stay (λc w' hc q=>(hs.2 c ?_).trans q) (λ_ q=>q) λ_ _ q=>q
  rintro rfl;rcases hc with rfl|hc
  ·rw[hfree]at e;cases e
  ·rw[hfree]at hc;cases hc
 rcases hx with hk|hk
 ·refine wpAny_storeName_local hk hn (λh' hn' hs=>?_) hcls;obtain⟨oL,_,_,hoL,_⟩:=id hn;refine h _ ⟨I.ok,I.os,I.bare,⟨λb o e n hb hx=>?_,λb o e n hb hx=>?_,I.base.free,λb o e hx=>?_,I.base.tups,I.base.frzs,I.base.tbls⟩,⟨_,hn',λj y v' e1 e2 e3=>?_⟩,λy c e=>?_,I.free,I.freeC,λp hp=>?_,tracked ⟨oL,hoL,I.free⟩ hs,by simpa using I.len⟩ ⟨_,hs,.inl rfl⟩
  ·exact(hs.2 b (Nat.ne_of_lt (Nat.lt_of_lt_of_le (Heap.lt_size e) I.ok.above))).trans (I.base.keep b o e n hb hx)
  ·obtain⟨sl,e1⟩:=I.base.slot b o e n hb hx;exact⟨sl,(hs.2 b (Nat.ne_of_lt (Nat.lt_of_lt_of_le (Heap.lt_size e) I.ok.above))).trans e1⟩
  ·obtain⟨o',e1⟩:=I.base.there b o e hx;exact⟨o',(hs.2 b (Nat.ne_of_lt (Nat.lt_of_lt_of_le (Heap.lt_size e) I.ok.above))).trans e1⟩
  ·by_cases hj:j=i
   ·subst hj;rw[hi]at e1;cases e1;rw[List.getElem?_set_self hiσ]at e2;cases e2;exact⟨u,r,.inl ⟨hk,by simp⟩⟩
   ·rw[List.getElem?_set_ne (Ne.symm hj)]at e2;obtain⟨u',r',q⟩:=hl j y v' e1 e2 e3;refine⟨u',r',?_⟩;rcases q with⟨k,e⟩ |⟨k,c,e,z⟩
    ·refine .inl ⟨k,?_⟩;have:y≠x:=λe=>hj (ze7 hN e1 (e ▸ hi))
     simp[this,e]
    ·exact .inr ⟨k,c,e,z.sameBut hs (cne y c e)⟩
  ·obtain⟨w',z⟩:=I.cell y c e;exact⟨w',z.sameBut hs (cne y c e)⟩
  ·obtain⟨e,n,ne,nf,d⟩:=I.pin p hp;exact⟨(hs.2 p.1 ne).trans e,n,ne,nf,d⟩
 ·have hfn:X.fn x=true:=by
   rcases hf with z|z
   ·exact z
   ·rw[z]at hk;cases hk
  obtain⟨c,hc⟩:=I.ok.has x (.inl hk);obtain⟨w',z⟩:=I.cell x c hc;refine wpAny_storeName_cell I.ok.kind hk hc z (λh' hc' hs=>?_);obtain⟨oc,hoc,hocd⟩:=id z;refine h { s with heap:=h' } ⟨I.ok,I.os,I.bare,⟨λb o e n hb hx=>?_,λb o e n hb hx=>?_,I.base.free,λb o e hx=>?_,I.base.tups,I.base.frzs,I.base.tbls⟩,⟨m,hn.sameBut hs (Ne.symm (cne x c hc)),λj y v' e1 e2 e3=>?_⟩,λy c' e=>?_,I.free,I.freeC,λp hp=>?_,tracked ⟨oc,hoc,I.freeC x c hc⟩ hs,by simpa using I.len⟩ ⟨c,hs,.inr hc⟩
  ·exact(hs.2 b (Nat.ne_of_lt (Nat.lt_of_lt_of_le (Heap.lt_size e) (I.ok.cab x c hfn hc)))).trans (I.base.keep b o e n hb hx)
  ·obtain⟨sl,e1⟩:=I.base.slot b o e n hb hx;exact⟨sl,(hs.2 b (Nat.ne_of_lt (Nat.lt_of_lt_of_le (Heap.lt_size e) (I.ok.cab x c hfn hc)))).trans e1⟩
  ·obtain⟨o',e1⟩:=I.base.there b o e hx;exact⟨o',(hs.2 b (Nat.ne_of_lt (Nat.lt_of_lt_of_le (Heap.lt_size e) (I.ok.cab x c hfn hc)))).trans e1⟩
  ·by_cases hj:j=i
   ·subst hj;rw[hi]at e1;cases e1;rw[List.getElem?_set_self hiσ]at e2;cases e2;exact⟨u,r,.inr ⟨.inl hk,c,hc,hc'⟩⟩
   ·rw[List.getElem?_set_ne (Ne.symm hj)]at e2;obtain⟨u',r',q⟩:=hl j y v' e1 e2 e3;refine⟨u',r',?_⟩;rcases q with q |⟨k,c',e,z'⟩
    ·exact .inl q
    ·refine .inr ⟨k,c',e,z'.sameBut hs ?_⟩;rintro rfl;exact hj (ze7 hN e1 (I.ok.inj _ _ _ e hc ▸ hi))
  ·by_cases hcc:c'=c
   ·subst hcc;exact⟨_,hc'⟩
   ·obtain⟨w2,z2⟩:=I.cell y c' e;exact⟨w2,z2.sameBut hs hcc⟩
  ·obtain⟨e,n,ne,nf,d⟩:=I.pin p hp;refine⟨(hs.2 p.1 ?_).trans e,n,ne,nf,d⟩;intro q;rw[q,hoc]at e;have q':oc=p.2:=Option.some.inj e;exact d w' (by rw[<-q'];exact hocd)
theorem yaQ{i:Nat}{v:V}(I:Inv X pins σ H s)(hN:X.N.Nodup)(hi:X.N[i]?=some x)(hx:Loc X.env.scope x)(r:RelV v u)
  (h:∀s',Inv X pins (σ.set i (some v)) H s'->Q () s') (hf:X.fn x=true\/X.env.scope.names.lookup x=some .local:=by first|exact .inl rfl|exact .inr rfl|assumption):wpAny M A (storeName X.env x u) Q E s :=
 yfY I hN hi hx r (λs' I' _=>h s' I') hf
theorem Inv.call'(I:Inv X pins σ H s)(ho:s'.os=s.os)(u:Un (frs X.stack) ch H H' s.heap s'.heap)(hok:HOk X.prog X.w H' s'.heap)(hg:AllBare s'.gens)
  (hch:∀b∈ch,(b∈X.ex\/X.s₀.heap.objs.size<=b)/\b≠X.env.locals/\(∀x c,X.env.cells.lookup x=some c->c≠b)/\∀p∈X.pn++pins,p.1≠b):Inv X pins σ H' s':=by
 obtain⟨h',g',d',t',o'⟩:=s';have e:o'=s.os:=ho;subst e;exact I.call (g':=g') (t':=t') (d':=d') u hok hg hch
end
abbrev XK:=Value->Option Addr->Hp->Prop
abbrev St:=List (Option V)
abbrev VK:=V->Hp->Prop
abbrev TE:=St->Hp->VK->Prop
abbrev TT:=St->Hp->(Bool->Hp->Prop)->Prop
abbrev TA:=St->Hp->(List V->Hp->Prop)->Prop
structure Ends where
 nx:St->Hp->Prop
 rt:VK
 bk:St->Hp->Prop:=λ_ _=>False
 ct:St->Hp->Prop:=λ_ _=>False
abbrev TS:=Ends->St->Hp->Prop
noncomputable def EP(X:Cx)(pins:List (Addr×Obj))(σ:St)(Q:VK)(u:Value)(s':Shared):Prop:=Ex2 λv H'=>Inv X pins σ H' s'/\RelV v u/\Q v H'
def TP(X:Cx)(pins:List (Addr×Obj))(σ:St)(Q:Bool->Hp->Prop)(b:Bool)(s':Shared):Prop:=∃H',Inv X pins σ H' s'/\Q b H'
noncomputable def AP(X:Cx)(pins:List (Addr×Obj))(σ:St)(Q:List V->Hp->Prop)(us:List Value)(s':Shared):Prop:=Ex2 λvs H'=>Inv X pins σ H' s'/\Vals vs us/\Q vs H'
noncomputable def SP(X:Cx)(pins:List (Addr×Obj))(D:Ends)(f:Flow)(s':Shared):Prop :=
 match f with
 | .next=>Ex2 λσ' H'=>Inv X pins σ' H' s'/\D.nx σ' H'
 | .brk=>Ex2 λσ' H'=>Inv X pins σ' H' s'/\D.bk σ' H'
 | .cont=>Ex2 λσ' H'=>Inv X pins σ' H' s'/\D.ct σ' H'
 | .ret u=>Ex3 λv σ' H'=>Inv X pins σ' H' s'/\RelV v u/\D.rt v H'
noncomputable def PE(X:Cx)(e:Expr)(t:TE):Prop :=
 ∀(pins:List (Addr×Obj)) (s:Shared) (σ:St) (H:Hp) (Q:VK),Inv X pins σ H s->t σ H Q->wpAny (model X.prog X.w) X.A (eval e X.env) (EP X pins σ Q) X.xe s
noncomputable def PT(X:Cx)(e:Expr)(t:TT):Prop :=
 ∀(pins:List (Addr×Obj)) (s:Shared) (σ:St) (H:Hp) (Q:Bool->Hp->Prop),Inv X pins σ H s->t σ H Q->wpAny (model X.prog X.w) X.A (isTrue e X.env (eval e X.env)) (TP X pins σ Q) X.xe s
noncomputable def PW(X:Cx)(e:Expr)(t:TT):Prop :=
 ∀(whole:Sem Value) (pins:List (Addr×Obj)) (s:Shared) (σ:St) (H:Hp) (Q:Bool->Hp->Prop),Inv X pins σ H s->t σ H Q->wpAny (model X.prog X.w) X.A (isTrue e X.env whole) (TP X pins σ Q) X.xe s
theorem PW.pt{X:Cx}{e:Expr}{t:TT}(h:PW X e t):PT X e t:=h _
noncomputable def PA(X:Cx)(es:List Expr)(t:TA):Prop :=
 ∀(pos:Pos) (pins:List (Addr×Obj)) (s:Shared) (σ:St) (H:Hp) (Q:List V->Hp->Prop),Inv X pins σ H s->t σ H Q->wpAny (model X.prog X.w) X.A (spliced (backTo pos (starEach es X.env))) (AP X pins σ Q) X.xe s
noncomputable def PS(X:Cx)(st:Stmt)(t:TS):Prop :=
 ∀(pins:List (Addr×Obj)) (s:Shared) (σ:St) (H:Hp) (D:Ends),Inv X pins σ H s->t D σ H->wpAny (model X.prog X.w) X.A (exec st X.env) (SP X pins D) X.xe s
noncomputable def PSs(X:Cx)(st:List Stmt)(t:TS):Prop :=
 ∀(pins:List (Addr×Obj)) (s:Shared) (σ:St) (H:Hp) (D:Ends),Inv X pins σ H s->t D σ H->wpAny (model X.prog X.w) X.A (execs st X.env) (SP X pins D) X.xe s
theorem thn{α:Type}{t:Sem α}{Q Q':α->Shared->Prop}(h:wpAny M A t Q E s)(hQ:∀a s,Q a s->Q' a s):wpAny M A t Q' E s:=wpAny_mono h hQ λ_ _ x=>x
end L2
namespace L2
open PySem PySem.Spec PyProof.Rows
section
variable {X:Cx}
inductive GVar (i:Nat) (σ:St) (H:Hp) (Q:VK):Prop
 |mk (v:V) (h:σ[i]?=some (some v)) (q:Q v H):GVar i σ H Q
def tVar(i:Nat):TE:=λσ H Q=>GVar i σ H Q
def tC(v:V):TE:=λ_ H Q=>Q v H
theorem yif{i:Nat}(hN:X.N[i]?=some x)(hv:Vis X.env.scope x)(hd:(x==("__debug__":Str))=false:=by decide)(hcd:(x==("__classdict__":Str))=false:=by decide):PE X (.Name x pos) (tVar i):=by
 intro pins s σ H Q I h;obtain⟨v,e,h⟩:=h;obtain⟨m,hn,hl⟩:=I.loc;obtain⟨u,r,l⟩:=hl i x v hN e hv;have fin:EP X pins σ Q u s:=⟨v,H,I,r,h⟩
 rcases l with⟨hk,hm⟩ |⟨hk,c,hc,hcell⟩
 ·exact wpAny_Name (wpAny_loadName_local I.ok.kind hk hn hm fin) hd
 ·rcases hk with hk|hk
  ·exact wpAny_Name (wpAny_loadName_cell I.ok.kind hk hc hcell fin) hd
  ·exact wpAny_Name (wpAny_loadName_free I.ok.kind hk hc hcell fin hcd) hd
theorem yab{i j pos}:PE X (.Constant (.int i) j pos) (tC (.int i)):=λ_ _ _ H _ I h=>wpAny_Constant_int ⟨.int i,H,I.tok _,⟨_,rfl⟩,h⟩
theorem yef{b j pos}:PE X (.Constant (.bool b) j pos) (tC (.bl b)):=λ_ _ _ H _ I h=>Constant_bool ⟨.bl b,H,I,rfl,h⟩
theorem zaF{x j pos}:PE X (.Constant (.str x) j pos) (tC (.str x)):=λ_ _ _ H _ I h=>Calls.Constant_str ⟨.str x,H,I.tok _,⟨_,rfl⟩,h⟩
def Gl(X:Cx)(x:Str):Prop:=X.env.kindOf x=some .globalImplicit
theorem yfz(I:Inv X pins σ H s)(hg:Gl X x)(hm:X.mg x=some u)(h:Q u s)
  (hd:(x==("__debug__":Str))=false:=by decide):wpAny (model X.prog X.w) X.A (eval (.Name x pos) X.env) Q E s :=
 Calls.Name_function_global I.ok.kind hg (Calls.loadGlobal_global (by rw[I.ok.glob];exact I.mod.glob.keeps I.bk) hm h) hd
theorem zbs{u:Value}(I:Inv X pins σ H s)(hg:Gl X x)(hm:X.mg x=none)(hv:bootBuiltins x=some u)(h:Q u s)
  (hn:x≠"__name__":=by decide) (hd:(x==("__debug__":Str))=false:=by decide):wpAny (model X.prog X.w) X.A (eval (.Name x pos) X.env) Q E s:=by
 obtain⟨mb,h1,h2⟩:=I.mod.blt;exact Calls.Name_function_global I.ok.kind hg (Calls.loadGlobal_builtin (by rw[I.ok.glob];exact I.mod.glob.keeps I.bk) hm (by rw[I.ok.blt];exact h1.keeps I.bk) ((h2 x hn).trans hv) h) hd
theorem zhK{x:Str}{v:V}{u:Value}{pos:Pos}(hg:Gl X x)(hm:X.mg x=some u)(r:RelV v u)(hd:(x==("__debug__":Str))=false:=by decide):PE X (.Name x pos) (tC v) :=
 λ_ _ _ H _ I h=>yfz I hg hm ⟨v,H,I,r,h⟩ hd
theorem yhN{x:Str}{v:V}{u:Value}{pos:Pos}(hg:Gl X x)(hm:X.mg x=none)(hv:bootBuiltins x=some u)(r:RelV v u)(hn:x≠"__name__":=by decide)(hd:(x==("__debug__":Str))=false:=by decide):PE X (.Name x pos) (tC v) :=
 λ_ _ _ H _ I h=>zbs I hg hm hv ⟨v,H,I,r,h⟩ hn hd
noncomputable def t2I(ta tb:TE)(k:Int->Int->Hp->Prop):St->Hp->Prop:=λσ H=>ta σ H λx H1=>tb σ H1 λy H2=>Ex2 λi j=>x = .int i/\y = .int j/\k i j H2
variable {a b:Expr} {ta tb:TE} {pos:Pos}
noncomputable def PC(X:Cx)(op:CmpOp)(a b:Expr)(t:TE):Prop :=
 ∀(pins:List (Addr×Obj)) (s:Shared) (σ:St) (H:Hp) (Q:VK),Inv X pins σ H s->t σ H Q->
  wpAny (model X.prog X.w) X.A (eval a X.env) (λv s₁=>wpAny (model X.prog X.w) X.A (eval b X.env) (λu s₂=>wpAny (model X.prog X.w) X.A (compareOp op v u) (EP X pins σ Q) X.xe s₂) X.xe s₁) X.xe s
def tCmp(p:Int->Int->Bool)(ta tb:TE):TE:=λσ H Q=>t2I ta tb (λi j H2=>Q (.bl (p i j)) H2) σ H
abbrev tLt:TE->TE->TE:=tCmp λi j=>decide (i<j)
abbrev tLe:TE->TE->TE:=tCmp λi j=>decide (i<=j)
abbrev tGt:TE->TE->TE:=tCmp λi j=>decide (j<i)
abbrev tGe:TE->TE->TE:=tCmp λi j=>decide (j<=i)
abbrev tEqI:TE->TE->TE:=tCmp λi j=>decide (i=j)
abbrev tNeI:TE->TE->TE:=tCmp λi j=>!decide (i=j)
def tB(t:TE):TT:=λσ H Q=>t σ H λx H1=>∃c,x = .bl c/\Q c H1
theorem pt_cmp{op:CmpOp}(h:PC X op a b t)(h1:behindInMarks op b=false:=by first|exact nobehind _ (by decide) (by decide)|rfl):PT X (.Compare a [op] [b] pos) (tB t):=by
 intro pins s σ H Q I hw;refine wpAny_isTrue_Compare1 (thn (h pins s σ H _ I hw) λv s1 h1=>thn h1 λu s2 h2=>thn h2 λc s3 ⟨x,H1,I1,r1,q1⟩=>?_) h1;obtain⟨d,rfl,q⟩:=q1;cases r1;exact wpAny_truthy_bool ⟨H1,I1,q⟩
theorem zda{e:Expr}{t:TE}(h:PE X e t)(he:∀whole,isTrue e X.env whole=(do let v <-whole;standAt e.pos;holding [v] (truthy v)):=by intro _;rfl):PT X e (tB t):=by
 intro pins s σ H Q I hw;refine isTrue_plain (thn (h pins s σ H _ I hw) λv s1 ⟨x,H1,I1,r1,q1⟩=>?_) (he _);obtain⟨d,rfl,q⟩:=q1;cases r1;exact wpAny_truthy_bool ⟨H1,I1,q⟩
variable {tA tB':TT} {rest:List Expr}
def tAnd(t u:TT):TT:=λσ H Q=>t σ H λc H1=>if c=true then u σ H1 Q else Q false H1
def tOr(t u:TT):TT:=λσ H Q=>t σ H λc H1=>if c=true then Q true H1 else u σ H1 Q
def tNot(t:TT):TT:=λσ H Q=>t σ H λc H1=>Q (!c) H1
theorem ygl(ha:PT X a tA):PW X (.BoolOp .And [a] pos) tA:=by
 intro wh pins s σ H Q I h;refine isTrue_and (thn (ha pins s σ H Q I h) λc s1 e=>?_);cases c with
 |true=>exact isTrue_and_nil e
 |false=>exact e
theorem yd1(ha:PT X a tA):PW X (.BoolOp .Or [a] pos) tA:=by
 intro wh pins s σ H Q I h;refine isTrue_or (thn (ha pins s σ H Q I h) λc s1 e=>?_);cases c with
 |false=>exact isTrue_or_nil e
 |true=>exact e
theorem yg4(ha:PT X a tA)(hb:PW X (.BoolOp .And (b::rest) pos) tB'):PW X (.BoolOp .And (a::b::rest) pos) (tAnd tA tB'):=by
 intro wh pins s σ H Q I h;refine isTrue_and (thn (ha pins s σ H _ I h) λc s1 hq=>?_);obtain⟨H1,I1,q1⟩:=hq;cases c with
 |true=>exact hb wh pins s1 σ H1 Q I1 q1
 |false=>exact⟨H1,I1,q1⟩
theorem zft(ha:PT X a tA)(hb:PW X (.BoolOp .Or (b::rest) pos) tB'):PW X (.BoolOp .Or (a::b::rest) pos) (tOr tA tB'):=by
 intro wh pins s σ H Q I h;refine isTrue_or (thn (ha pins s σ H _ I h) λc s1 hq=>?_);obtain⟨H1,I1,q1⟩:=hq;cases c with
 |true=>exact⟨H1,I1,q1⟩
 |false=>exact hb wh pins s1 σ H1 Q I1 q1
theorem yeO(ha:PT X a tA):PT X (.UnaryOp .Not a pos) (tNot tA):=by
 intro pins s σ H Q I h;exact isTrue_not (ha pins s σ H (λc H1=>Q (!c) H1) I h)
def ziA(ta tb:TE):TE:=λσ H Q=>ta σ H λx H1=>∃c,x = .bl c/\if c=true then tb σ H1 Q else Q (.bl false) H1
def ziM(ta:TE):TE:=λσ H Q=>ta σ H λx H1=>∃c,x = .bl c/\Q (.bl (!c)) H1
theorem yg5{op}{t:TE}(h:PE X a t):PE X (.BoolOp op [a] pos) t:=λpins s σ H Q I hw=>BoolOp_one (h pins s σ H Q I hw)
theorem yg9(ha:PE X a ta)(hb:PE X (.BoolOp .And (b::rest) pos) tb):PE X (.BoolOp .And (a::b::rest) pos) (ziA ta tb):=by
 intro pins s σ H Q I h;refine BoolOp_and (thn (ha pins s σ H _ I h) λv s1 hq=>?_);obtain⟨x,H1,I1,r1,q1⟩:=hq;obtain⟨c,rfl,q1⟩:=q1;cases r1;refine wpAny_truthy_bool ?_;cases c with
 |true=>exact hb pins s1 σ H1 Q I1 q1
 |false=>exact⟨.bl false,H1,I1,rfl,q1⟩
theorem zii(ha:PE X a ta):PE X (.UnaryOp .Not a pos) (ziM ta):=by
 intro pins s σ H Q I h;refine UnaryOp_ (thn (ha pins s σ H _ I h) λv s1 hq=>?_);obtain⟨x,H1,I1,r1,q1⟩:=hq;obtain⟨c,rfl,q1⟩:=q1;cases r1;exact not_of (wpAny_truthy_bool ⟨.bl (!c),H1,I1,rfl,q1⟩)
end
end L2
namespace L2
open PySem PySem.Spec PyProof.Rows
noncomputable def SqL(K:PySem.W.Frag)(H:Hp)(a:Addr)(xs:List V):Prop :=
 Rd H a (.lst xs)\/
  Ex3 λ(o:Obj) (its:Array Value) (n:Nat)=>K.lookup a=some o/\o.cls = .type "list"/\o.dict=none/\o.data = .seq its n/\its.size<=sizeLine/\Vals xs its.toList
noncomputable def SqT(K:PySem.W.Frag)(H:Hp)(a:Addr)(xs:List V):Prop :=
 Rd H a (.tup xs)\/
  Ex3 λ(o:Obj) (its:Array Value) (n:Nat)=>K.lookup a=some o/\o.cls = .type "tuple"/\o.data = .seq its n/\its.size<=sizeLine/\Vals xs its.toList
noncomputable def absV:Value->Option V
 | .none=>some .non
 | .bool b=>some (.bl b)
 | .int i _=>some (.int i)
 | .str x _=>some (.str x)
 | .bytes b _=>some (.byt b)
 | .float b _=>some (.flt b)
 | .ref a=>some (.ref a)
 | .type n=>some (.ty n)
 |_=>none
theorem RelV.abs(r:RelV x u):absV u=some x:=by
 cases x with
 |non=>cases r;rfl
 |bl _=>cases r;rfl
 |int _=>obtain⟨t,rfl⟩:=r;rfl
 |str _=>obtain⟨t,rfl⟩:=r;rfl
 |byt _=>obtain⟨t,rfl⟩:=r;rfl
 |flt _=>obtain⟨t,rfl⟩:=r;rfl
 |ref _=>cases r;rfl
 |ty _=>cases r;rfl
theorem RelV.inj(r:RelV x u)(q:RelV y u):x=y:=Option.some.inj (r.abs.symm.trans q.abs)
theorem Vals.inj(h:Vals xs us)(h2:Vals ys us):xs=ys:=by
 induction h generalizing ys with
 |nil=>cases h2;rfl
 |cons r t ih=>cases h2 with|cons r' t'=>rw[r.inj r',ih t']
section
variable {X:Cx} {pins:List (Addr×Obj)} {σ:St} {H:Hp} {s:Shared} {a:Addr} {xs ys:List V}
theorem SqL.of{K:PySem.W.Frag}(h:H a=some (.lst xs)):SqL K H a xs:=.inl (.inl h)
theorem SqT.of{K:PySem.W.Frag}(h:H a=some (.tup xs)):SqT K H a xs:=.inl (.inl h)
theorem Inv.list(I:Inv X pins σ H s)(h:SqL X.K H a xs):∃its:List Value,Vals xs its/\PlainL s.heap a its.toArray/\xs.length<=sizeLine:=by
 rcases h with h |⟨o,its,n,hk,hc,hd,hs,hz,r⟩
 ·obtain⟨z,its,n,r,e⟩:=h.ok I.hok;exact⟨its,r,⟨_,n,e,rfl,rfl,rfl⟩,z⟩
 ·refine⟨its.toList,r,⟨o,n,I.kIn a o hk,hc,hd,by simpa using hs⟩,?_⟩;have e:=r.length;simp only[Array.length_toList]at e
  lia
theorem Inv.tuple(I:Inv X pins σ H s)(h:SqT X.K H a xs):∃its:List Value,Vals xs its/\IsTup s.heap a its.toArray/\xs.length<=sizeLine:=by
 rcases h with h |⟨o,its,n,hk,hc,hs,hz,r⟩
 ·obtain⟨z,its,r,p⟩:=h.ok I.hok;exact⟨its,r,p,z⟩
 ·refine⟨its.toList,r,⟨o,I.kIn a o hk,hc,n,by simpa using hs⟩,?_⟩;have e:=r.length;simp only[Array.length_toList]at e
  lia
theorem Inv.list_inj(I:Inv X pins σ H s)(h:SqL X.K H a xs)(h':SqL X.K H a ys):xs=ys:=by
 obtain⟨its,r,⟨o,n,e,_,_,d⟩,_⟩:=I.list h;obtain⟨its',r',⟨o',n',e',_,_,d'⟩,_⟩:=I.list h';rw[e]at e';cases e';rw[d]at d';injection d' with d1 _;have:its=its':=by simpa using congrArg Array.toList d1
 subst this;exact r.inj r'
theorem Inv.tuple_inj(I:Inv X pins σ H s)(h:SqT X.K H a xs)(h':SqT X.K H a ys):xs=ys:=by
 obtain⟨its,r,⟨o,e,_,n,d⟩,_⟩:=I.tuple h;obtain⟨its',r',⟨o',e',_,n',d'⟩,_⟩:=I.tuple h';rw[e]at e';cases e';rw[d]at d';injection d' with d1 _;have:its=its':=by simpa using congrArg Array.toList d1
 subst this;exact r.inj r'
end
abbrev Cx.wish(X:Cx)(E:Value->Shared->Prop):Cx:={ X with xe:=E }
abbrev Cx.nox(X:Cx):Cx:=X.wish λ_ _=>False
theorem Cx.Ok.wish{X:Cx}(ok:X.Ok)(E:Value->Shared->Prop):(X.wish E).Ok :=
 ⟨ok.mod,ok.kind,ok.glob,ok.blt,ok.above,ok.inj,ok.has,ok.cab,ok.hd,ok.frames,ok.stk,ok.exf,ok.bs,ok.bsz,ok.noex,ok.exfs,ok.funs,ok.frf⟩
theorem Cx.Ok.unwish{X:Cx}{E:Value->Shared->Prop}(ok:(X.wish E).Ok):X.Ok :=
 ⟨ok.mod,ok.kind,ok.glob,ok.blt,ok.above,ok.inj,ok.has,ok.cab,ok.hd,ok.frames,ok.stk,ok.exf,ok.bs,ok.bsz,ok.noex,ok.exfs,ok.funs,ok.frf⟩
section
variable {X:Cx} {pins:List (Addr×Obj)} {σ:St} {H:Hp} {s:Shared} {E:Value->Shared->Prop}
theorem Inv.wish(I:Inv X pins σ H s)(E:Value->Shared->Prop):Inv (X.wish E) pins σ H s:=⟨I.ok.wish E,I.os,I.bare,I.base,I.loc,I.cell,I.free,I.freeC,I.pin,I.hok,I.len⟩
theorem Inv.unwish(I:Inv (X.wish E) pins σ H s):Inv X pins σ H s:=⟨I.ok.unwish,I.os,I.bare,I.base,I.loc,I.cell,I.free,I.freeC,I.pin,I.hok,I.len⟩
theorem SP.unwish{f:Flow}(h:SP (X.wish E) pins D f s'):SP X pins D f s':=by
 cases f with
 |next=>obtain⟨σ',H',I,q⟩:=h;exact⟨σ',H',I.unwish,q⟩
 |brk=>obtain⟨σ',H',I,q⟩:=h;exact⟨σ',H',I.unwish,q⟩
 |cont=>obtain⟨σ',H',I,q⟩:=h;exact⟨σ',H',I.unwish,q⟩
 |ret u=>obtain⟨v,σ',H',I,r,q⟩:=h;exact⟨v,σ',H',I.unwish,r,q⟩
theorem PSs.nox{st:List Stmt}{t:TS}(h:PSs X.nox st t):PSs X st t:=λpins s σ H D I hw=>
 wpAny_mono (h pins s σ H D (I.wish _) hw) (λ_ _ q=>q.unwish) λ_ _ z=>False.elim z
end
section
variable {X:Cx} {st:Stmt} {rest:List Stmt} {t u:TS} {e:Expr} {te:TE} {pos:Pos}
def yex:TS:=λD σ H=>D.nx σ H
def tSeq(t u:TS):TS:=λD σ H=>t { D with nx:=u D } σ H
theorem yao:PSs X [] yex:=λ_ _ σ H _ I h=>wpAny_execs_nil ⟨σ,H,I,h⟩
theorem ygP(h1:PS X st t)(h2:PSs X rest u):PSs X (st::rest) (tSeq t u):=by
 intro pins s σ H D I h;refine wpAny_execs_cons (thn (h1 pins s σ H { D with nx:=u D } I h) λf s1 q=>?_);cases f with
 |next=>
  obtain⟨σ',H',I',q⟩:=q;exact h2 pins s1 σ' H' D I' q
 |ret v=>exact q
 |brk=>exact q
 |cont=>exact q
theorem yhV(h1:PS X st t):PSs X [st] t:=by
 intro pins s σ H D I h;refine wpAny_execs_cons (thn (h1 pins s σ H D I h) λf s1 q=>?_);cases f with
 |next=>exact wpAny_execs_nil q
 |ret v=>exact q
 |brk=>exact q
 |cont=>exact q
theorem Inv.quiet(I:Inv X pins σ H s):interactive X.env=false:=by simp[interactive,I.ok.kind]
def zh9(te:TE):TS:=λD σ H=>te σ H λ_ H1=>D.nx σ H1
theorem zcj(he:PE X e te)(hs:swapsWith e none pos.line X.env=pure false:=by rfl):PS X (.Expr e pos) (zh9 te):=by
 intro pins s σ H D I h;exact wpAny_Expr_any (thn (he pins s σ H _ I h) λv s1 ⟨x,H1,I1,r1,q1⟩=>⟨σ,H1,I1,q1⟩) I.quiet hs
def tRet(te:TE):TS:=λD σ H=>te σ H D.rt
theorem zh4(he:PE X e te):PS X (.Return (some e) pos) (tRet te):=by
 intro pins s σ H D I h;exact wpAny_Return_some (thn (he pins s σ H _ I h) λv s1 ⟨x,H1,I1,r1,q1⟩=>⟨x,σ,H1,I1,r1,q1⟩)
def tIfS(c:TT)(t u:TS):TS:=λD σ H=>c σ H λb H1=>if b=true then t D σ H1 else u D σ H1
theorem yiJ{c:Expr}{a b:List Stmt}{tc:TT}(hc:PT X c tc)(ha:PSs X a t)(hb:PSs X b u):PS X (.If c a b pos) (tIfS tc t u):=by
 intro pins s σ H D I h;refine wpAny_If (thn (hc pins s σ H _ I h) λd s1 hq=>?_);obtain⟨H1,I1,q1⟩:=hq;cases d with
 |true=>exact ha pins s1 σ H1 D I1 q1
 |false=>exact hb pins s1 σ H1 D I1 q1
end
abbrev TG:=V->St->Hp->(St->Hp->Prop)->Prop
abbrev TGs:=List V->St->Hp->(St->Hp->Prop)->Prop
noncomputable def PG(X:Cx)(target:Expr)(t:TG):Prop :=
 ∀(pins:List (Addr×Obj)) (s:Shared) (σ:St) (H:Hp) (v:V) (u:Value) (Q:St->Hp->Prop),Inv X pins σ H s->RelV v u->t v σ H Q->
  wpAny (model X.prog X.w) X.A (assign target X.env u) (λ_ s'=>Ex2 λσ' H'=>Inv X pins σ' H' s'/\Q σ' H') X.xe s
noncomputable def PGs(X:Cx)(ts:List Expr)(t:TGs):Prop :=
 ∀(pins:List (Addr×Obj)) (s:Shared) (σ:St) (H:Hp) (vs:List V) (us:List Value) (Q:St->Hp->Prop),Inv X pins σ H s->Vals vs us->t vs σ H Q->
  wpAny (model X.prog X.w) X.A (assignInOrder ((assignEach ts X.env).map (·.2)) us) (λ_ s'=>Ex2 λσ' H'=>Inv X pins σ' H' s'/\Q σ' H') X.xe s
abbrev TSet:=V->V->V->Hp->(Hp->Prop)->Prop
noncomputable def PSet(X:Cx)(t:TSet):Prop :=
 ∀(pins:List (Addr×Obj)) (s:Shared) (σ:St) (H:Hp) (o i v:V) (ov iv u:Value) (Q:Hp->Prop),Inv X pins σ H s->RelV o ov->RelV i iv->RelV v u->t o i v H Q->
  wpAny (model X.prog X.w) X.A (setItem ov iv u) (λ_ s'=>∃H',Inv X pins σ H' s'/\Q H') X.xe s
abbrev TIp:=V->V->Hp->VK->Prop
noncomputable def PIp(X:Cx)(op:Operator)(t:TIp):Prop :=
 ∀(pins:List (Addr×Obj)) (s:Shared) (σ:St) (H:Hp) (x y:V) (v u:Value) (Q:VK),Inv X pins σ H s->RelV x v->RelV y u->t x y H Q->
  wpAny (model X.prog X.w) X.A (inplaceOp op v u) (EP X pins σ Q) X.xe s
section
variable {X:Cx} {pos:Pos}
def zaj(i:Nat):TG:=λv σ H Q=>Q (σ.set i (some v)) H
theorem ycV{i:Nat}{x:Str}(hN:X.N.Nodup)(hi:X.N[i]?=some x)(hx:Loc X.env.scope x)(hf:X.fn x=true\/X.env.scope.names.lookup x=some .local:=by first|exact .inl rfl|exact .inr rfl|assumption):PG X (.Name x pos) (zaj i):=by
 intro pins s σ H v u Q I r h;exact wpAny_assign_Name (yaQ I hN hi hx r (λs' I'=>⟨_,H,I',h⟩) hf)
def gNil:TGs:=λvs σ H Q=>vs=[]/\Q σ H
inductive zh3 (t:TG) (u:TGs) (vs:List V) (σ:St) (H:Hp) (Q:St->Hp->Prop):Prop
 |mk (v:V) (r:List V) (e:vs=v::r) (q:t v σ H λσ' H'=>u r σ' H' Q):zh3 t u vs σ H Q
def ziS(t:TG)(u:TGs):TGs:=λvs σ H Q=>zh3 t u vs σ H Q
theorem yav:PGs X [] gNil:=by
 intro pins s σ H vs us Q I r h;obtain⟨e,h⟩:=h;subst e;cases r;exact assignInOrder_nil ⟨σ,H,I,h⟩
theorem ygT{e:Expr}{es:List Expr}{t:TG}{u:TGs}(h1:PG X e t)(h2:PGs X es u)
  (hs:(assignEach (e::es) X.env).map (·.2)=assign e X.env::(assignEach es X.env).map (·.2):=by rfl):PGs X (e::es) (ziS t u):=by
 intro pins s σ H vs us Q I r h;obtain⟨v,vr,e1,h⟩:=h;subst e1;cases r with
 |cons r rr=>
  rw[hs];refine assignInOrder_cons (thn (h1 pins s σ H _ _ _ I r h) λ_ s1 hq=>?_);obtain⟨σ1,H1,I1,q1⟩:=hq;exact h2 pins s1 σ1 H1 _ _ Q I1 rr q1
inductive GTup (K:PySem.W.Frag) (n:Nat) (t:TGs) (v:V) (σ:St) (H:Hp) (Q:St->Hp->Prop):Prop
 |mk (a:Addr) (xs:List V) (e:v = .ref a) (h:SqT K H a xs) (l:xs.length=n) (q:t xs σ H Q):GTup K n t v σ H Q
def gTup(K:PySem.W.Frag)(n:Nat)(t:TGs):TG:=λv σ H Q=>GTup K n t v σ H Q
theorem ycb{es:List Expr}{k:Nat}{t:TGs}{n:Nat}(hc:X.calm=true)(h:PGs X es t)
  (hn:(assignEach es X.env).length=n:=by rfl) (hst:(assignEach es X.env).findIdx? (·.1)=none:=by rfl):PG X (.Tuple es k pos) (gTup X.K n t):=by
 intro pins s σ H v u Q I r hw;obtain⟨a,xs,e1,hq,hl,hw⟩:=hw;subst e1;cases r;obtain⟨its,rv,ht,hz⟩:=I.tuple hq;refine assign_Tuple_tuple (I.ok.hd hc) ht (by simp[hn,<-hl,rv.length]) hst λh' hx=>?_
 have I1:Inv X pins σ H { s with heap:=h' }:=I.kept (t':=s.toks) λb o e=>hx b o (Nat.ne_of_lt (Heap.lt_size e)) e
 exact h pins _ σ H xs _ Q I1 (by simpa using rv) hw
def gSub(to ti:TE)(t:TSet):TG:=λv σ H Q=>to σ H λo H1=>ti σ H1 λi H2=>t o i v H2 λH3=>Q σ H3
theorem zca{o i:Expr}{to ti:TE}{t:TSet}(ho:PE X o to)(hi:PE X i ti)(hs:PSet X t)
  (ha:∀v,assign (.Subscript o i pos) X.env v=(do
   let ov <-holding [v] (eval o X.env)
   let iv <-holding [v,ov] (eval i X.env)
   standAt pos
   holding [v,ov,iv] (setItem ov iv v)
   release [v,ov,iv] []):=by intro _;rfl):PG X (.Subscript o i pos) (gSub to ti t):=by
 intro pins s σ H v u Q I r h;rw[ha];refine wpAny_bind (wpAny_holding (thn (ho pins s σ H _ I h) λov s1 hq=>?_));obtain⟨x,H1,I1,r1,q1⟩:=hq;refine wpAny_bind (wpAny_holding (thn (hi pins s1 σ H1 _ I1 q1) λiv s2 hq=>?_));obtain⟨y,H2,I2,r2,q2⟩:=hq;refine wpAny_bind (wpAny_standAt (wpAny_bind (wpAny_holding (thn (hs pins s2 σ H2 x y v ov iv u _ I2 r1 r2 r q2) λ_ s3 hq=>?_))));obtain⟨H3,I3,q3⟩:=hq;exact wpAny_release ⟨σ,H3,I3,q3⟩
def tAsg(te:TE)(g:TG):TS:=λD σ H=>te σ H λx H1=>g x σ H1 D.nx
theorem zbO{tg e:Expr}{te:TE}{g:TG}(he:PE X e te)(hg:PG X tg g)(hs:swapsWithSole [tg] e pos.line X.env=pure false:=by rfl)(hw:swappedStores [tg] e X.env=pure none:=by rfl)
  (h1:(assignEach [tg] X.env).map (·.2)=[assign tg X.env]:=by rfl):PS X (.Assign [tg] e pos) (tAsg te g):=by
 intro pins s σ H D I h;refine wpAny_Assign_stores (thn (he pins s σ H _ I h) λv s1 ⟨x,H1,I1,r1,q1⟩=>?_) hs hw;rw[h1];exact thn (hg pins s1 σ H1 x v _ I1 r1 q1) λ_ s2 q=>q
theorem yh5{i:Nat}{x:Str}{e:Expr}{te:TE}{pos':Pos}(hN:X.N.Nodup)(hi:X.N[i]?=some x)(hx:Loc X.env.scope x)(he:PE X e te)(hs:swapsWith e (some (.Name x pos')) pos.line X.env=pure false:=by rfl)(hf:X.fn x=true\/X.env.scope.names.lookup x=some .local:=by first|exact .inl rfl|exact .inr rfl|assumption) :
  PS X (.Assign [.Name x pos'] e pos) (tAsg te (zaj i)):=by
 intro pins s σ H D I h;refine wpAny_Assign_Name (thn (he pins s σ H _ I h) λv s1 ⟨y,H1,I1,r1,q1⟩=>?_) hs;exact yaQ I1 hN hi hx r1 (λs2 I2=>⟨_,H1,I2,q1⟩) hf
inductive GPar (i j:Nat) (D:Ends) (vs:List V) (σ:St) (H:Hp):Prop
 |mk (v w:V) (e:vs=[v,w]) (q:D.nx ((σ.set i (some v)).set j (some w)) H):GPar i j D vs σ H
def tPar(i j:Nat)(ta:TA):TS:=λD σ H=>ta σ H λvs H1=>GPar i j D vs σ H1
theorem ycy{i j:Nat}{x y:Str}{a b:Expr}{ta:TA}{px py pt:Pos}{kt k2 pt2}(hc:X.calm=true)(hN:X.N.Nodup)(hi:X.N[i]?=some x)(hj:X.N[j]?=some y)(hij:i≠j)
  (hx:X.env.scope.names.lookup x=some .local) (hy:X.env.scope.names.lookup y=some .local) (ha:PA X [a,b] ta)
  (hw:swappedStores [.Tuple [.Name x px,.Name y py] kt pt] (.Tuple [a,b] k2 pt2) X.env=pure (some [x,y]))
  (hs:swapsWithSole [.Tuple [.Name x px,.Name y py] kt pt] (.Tuple [a,b] k2 pt2) pos.line X.env=pure false:=by rfl) :
  PS X (.Assign [.Tuple [.Name x px,.Name y py] kt pt] (.Tuple [a,b] k2 pt2) pos) (tPar i j ta):=by
 intro pins s σ H D I h;rw[exec_Assign_arm];refine wpAny_bind (wpAny_standAt ?_);rw[hs];refine wpAny_bind (wpAny_pure ?_);rw[if_neg (by decide)];refine wpAny_bind (Tuple_ (thn (ha _ pins s σ H _ I h) λus s1 hq=>?_));obtain⟨vs,H1,I1,r1,q1⟩:=hq;obtain⟨v,w,e1,q1⟩:=q1;subst e1;obtain⟨u1,u2,rfl,rv,rw'⟩:Ex2 λu1 u2=>us=[u1,u2]/\RelV v u1/\RelV w u2:=by
  cases r1 with
  |cons p q=>
   cases q with
   |cons p' q'=>
    cases q';exact⟨_,_,rfl,p,p'⟩
 refine wpAny_newObj_type ?_ (by show 2<=sizeLine;decide);have I2:Inv X pins σ H1 { s1 with heap:=s1.heap.push { cls:=.type "tuple",data:=.seq [u1,u2].toArray } }:=I1.kept (t':=s1.toks) λb o e=>Heap.get?_push_of_some _ e
 rw[hw];refine wpAny_bind (wpAny_pure ?_);show wpAny (model X.prog X.w) X.A (do rule "assign.swapped-stores";let items <-unpackItems (.ref s1.heap.objs.size) 2 none;assignInOrder [λv=>bindName X.env y v,λv=>bindName X.env x v] items.reverse;pure Flow.next) _ _ _;refine wpAny_bind (wpAny_rule (wpAny_bind (unpackItems_tuple (items:=#[u1,u2]) (I.ok.hd hc) (IsTup.new s1.heap _) λh' hx'=>?_)));have I3:=I2.kept (h':=h') (t':=s1.toks) λb o e=>hx' b o (Nat.ne_of_lt (Heap.lt_size e)) e
 show wpAny _ _ (assignInOrder [λv=>bindName X.env y v,λv=>bindName X.env x v] [u2,u1] >>= λ_=>pure Flow.next) _ _ _;refine wpAny_bind (assignInOrder_cons (wpAny_bindName (yaQ I3 hN hj (.inl hy) rw' (λs2 I4=>?_) (.inr hy))));refine assignInOrder_cons (wpAny_bindName (yaQ I4 hN hi (.inl hx) rv (λs3 I5=>assignInOrder_nil (wpAny_pure ?_)) (.inr hx)));rw[List.set_comm _ _ (Ne.symm hij)]at I5;exact⟨_,H1,I5,q1⟩
noncomputable def tAug(i:Nat)(te:TE)(ti:TIp):TS:=λD σ H=>∃x,σ[i]?=some (some x)/\te σ H λy H1=>ti x y H1 λz H2=>D.nx (σ.set i (some z)) H2
theorem ybh{i:Nat}{x:Str}{e:Expr}{te:TE}{op:Operator}{ti:TIp}{pos':Pos}(hN:X.N.Nodup)(hi:X.N[i]?=some x)(hx:Loc X.env.scope x)(he:PE X e te)(ho:PIp X op ti)(hf:X.fn x=true\/X.env.scope.names.lookup x=some .local:=by first|exact .inl rfl|exact .inr rfl|assumption) :
  PS X (.AugAssign (.Name x pos') op e pos) (tAug i te ti):=by
 intro pins s σ H D I h;obtain⟨v,e1,h⟩:=h;obtain⟨m,hn,hl⟩:=I.loc;have vis:Vis X.env.scope x:=by rcases hx with k|k;exact .inl k;exact .inr (.inl k)
 obtain⟨u,r,l⟩:=hl i x v hi e1 vis;refine wpAny_AugAssign_Name ?_;have go:wpAny (model X.prog X.w) X.A (eval e X.env) (λw s₂=>wpAny (model X.prog X.w) X.A (inplaceOp op u w) (λr s₃=>wpAny (model X.prog X.w) X.A (storeName X.env x r) (λ_=>SP X pins D .next) X.xe s₃) X.xe s₂) X.xe s:=by
  refine thn (he pins s σ H _ I h) λw s1 hq=>?_
  obtain⟨y,H1,I1,r1,q1⟩:=hq;refine thn (ho pins s1 σ H1 v y u w _ I1 r r1 q1) λz s2 hq=>?_
  obtain⟨zv,H2,I2,r2,q2⟩:=hq;exact yaQ I2 hN hi hx r2 (λs3 I3=>⟨_,H2,I3,q2⟩) hf
 rcases l with⟨hk,hm⟩ |⟨hk,c,hc,hcell⟩
 ·exact wpAny_loadName_local I.ok.kind hk hn hm go
 ·rcases hk with hk|hk
  ·exact wpAny_loadName_cell I.ok.kind hk hc hcell go
  ·rcases hx with k|k
   ·have:X.env.scope.names.lookup x=some .free:=hk;rw[k]at this;cases this
   ·have:X.env.scope.names.lookup x=some .free:=hk;rw[k]at this;cases this
noncomputable def ziJ(to ti te:TE)(tget:V->V->Hp->VK->Prop)(tip:TIp)(tset:TSet):TS:=λD σ H=>to σ H λo H1=>ti σ H1 λi H2=>tget o i H2 λx H3=>te σ H3 λy H4=>tip x y H4 λz H5=>tset o i z H5 λH6=>D.nx σ H6
noncomputable def PGet(X:Cx)(t:V->V->Hp->VK->Prop):Prop :=
 ∀(pins:List (Addr×Obj)) (s:Shared) (σ:St) (H:Hp) (o i:V) (ov iv:Value) (Q:VK),Inv X pins σ H s->RelV o ov->RelV i iv->t o i H Q->
  wpAny (model X.prog X.w) X.A (getItem ov iv) (EP X pins σ Q) X.xe s
theorem yht{tget:V->V->Hp->VK->Prop}{tip:TIp}{tset:TSet}{op:Operator}(ho:PE X o to)(hi:PE X i ti)(hg:PGet X tget)(he:PE X e te)(hp:PIp X op tip)(hs:PSet X tset)
  (ha:∀ov iv new,augStore i ov iv new=(do holding [new,ov,iv] (setItem ov iv new);release [new,ov,iv] [];pure .next):=by intros;rfl):PS X (.AugAssign (.Subscript o i tpos) op e pos) (ziJ to ti te tget tip tset):=by
 intro pins s σ H D I h;refine wpAny_AugAssign_SubscriptAny (thn (ho pins s σ H _ I h) λov s1 ⟨x1,H1,I1,r1,q1⟩=>?_) ha;refine thn (hi pins s1 σ H1 _ I1 q1) λiv s2 hq=>?_
 obtain⟨x2,H2,I2,r2,q2⟩:=hq;refine thn (hg pins s2 σ H2 x1 x2 ov iv _ I2 r1 r2 q2) λold s3 hq=>?_
 obtain⟨x3,H3,I3,r3,q3⟩:=hq;refine thn (he pins s3 σ H3 _ I3 q3) λv s4 hq=>?_
 obtain⟨x4,H4,I4,r4,q4⟩:=hq;refine thn (hp pins s4 σ H4 x3 x4 old v _ I4 r3 r4 q4) λnew s5 hq=>?_
 obtain⟨x5,H5,I5,r5,q5⟩:=hq;exact thn (hs pins s5 σ H5 x1 x2 x5 ov iv new _ I5 r1 r2 r5 q5) λ_ s6 ⟨H6,I6,q6⟩=>⟨σ,H6,I6,q6⟩
end
section
variable {X:Cx} {pos:Pos}
noncomputable def zg4(c:TT)(tb:TS):TS:=λD σ H=>∃W:Nat->St->Hp->Prop,(∃m,W m σ H)/\∀m σ H,W m σ H->
 c σ H λb H1=>if b=true then ∃N:St->Hp->Prop,(∀σ' H',N σ' H'->∃m',m'<m/\W m' σ' H')/\tb { D with nx:=N,ct:=N,bk:=D.nx } σ H1 else D.nx σ H1
theorem yaC{c:Expr}{body:List Stmt}{tc:TT}{tb:TS}(hp:PassesOwn (model X.prog X.w) X.A X.env X.xe)(hc:PT X c tc)(hb:PSs X body tb):PS X (.While c body [] pos) (zg4 tc tb):=by
 intro pins s σ H D I h;obtain⟨W,⟨m0,w0⟩,turn⟩:=h;refine wpAny_While (codeAny_whileLoop (λn s'=>Ex2 λσ' H'=>Inv X pins σ' H' s'/\W n σ' H') ?_ m0 ⟨σ,H,I,w0⟩);rintro n s1 ⟨σ1,H1,I1,w1⟩;refine wpAny_passesOwn hp (thn (hc pins s1 σ1 H1 _ I1 (turn n σ1 H1 w1)) λb s2 hq=>?_);obtain⟨H2,I2,q2⟩:=hq;cases b with
 |true=>
  obtain⟨N,hN,q2⟩:=q2;rw[if_pos rfl];refine wpAny_passesOwn hp (thn (hb pins s2 σ1 H2 _ I2 q2) λf s3 q3=>?_);cases f with
  |next=>
   obtain⟨σ3,H3,I3,n3⟩:=q3;obtain⟨m',hm,w3⟩:=hN σ3 H3 n3;exact⟨m',hm,σ3,H3,I3,w3⟩
  |cont=>
   obtain⟨σ3,H3,I3,n3⟩:=q3;obtain⟨m',hm,w3⟩:=hN σ3 H3 n3;exact⟨m',hm,σ3,H3,I3,w3⟩
  |brk=>exact q3
  |ret v=>exact q3
 |false=>
  rw[if_neg Bool.false_ne_true];exact wpAny_execs_nil ⟨σ1,H2,I2,q2⟩
end
structure It where
 go:Nat->Hp->Prop
 yld:Nat->Hp->V->Hp->Prop
 stop:Nat->Hp->Prop
noncomputable def FpOk(X:Cx)(pins:List (Addr×Obj))(H:Hp)(b:Addr):Prop :=
 H b=none/\b≠X.env.locals/\b∉X.fs/\(b∈X.ex\/X.s₀.heap.objs.size<=b)/\(∀x c,X.env.cells.lookup x=some c->c≠b)/\∀p∈X.pn++pins,p.1≠b
theorem Inv.fpOk(I:Inv X pins σ H s)(hb:s.heap.objs.size<=b)(hn:H' b=none):FpOk X pins H' b:=by
 refine⟨hn,Nat.ne_of_gt (Nat.lt_of_lt_of_le I.lt hb),I.nofs hb,.inr (Nat.le_trans I.sz hb),λx c e z=>?_,λp hp z=>?_⟩
 ·obtain⟨v,q⟩:=I.cell x c e;exact absurd (Nat.lt_of_lt_of_le q.lt (by rw[z];exact hb)) (Nat.lt_irrefl _)
 ·exact absurd (Nat.lt_of_lt_of_le (Heap.lt_size (I.pin p hp).1) (by rw[z];exact hb)) (Nat.lt_irrefl _)
structure Turn(P:Program)(w:World)(K:PySem.W.Frag)(tg:Expr)(J:It)(fp:List Addr)(it:Addr)(tn:Nat->Heap->Prop):Prop where
 mem:it∈fp
 obj:∀i h,tn i h->∀b∈fp,∃o,h.get? b=some o/\∀v,o.data≠.cell v
 keep:∀i h h',tn i h->(∀b∈fp,∀o,h.get? b=some o->h'.get? b=some o)->tn i h'
 item:∀(X:Cx),X.prog=P->X.w=w->X.K=K->X.calm=true->∀(i:Nat) (pins:List (Addr×Obj)) (s:Shared) (σ:St) (H:Hp) (E:Value->Shared->Prop),Inv X pins σ H s->(∀b∈fp,FpOk X pins H b)->tn i s.heap->J.go i H->
  wpAny (model P w) X.A (pyNext (.ref it)) (λr s1=>∃u,r=some u/\
   wpAny (model P w) X.A (letOwnedTupleGo tg (.ref it) u) (λ_ s2=>Ex2 λx H'=>Inv X pins σ H' s2/\RelV x u/\J.yld i H x H'/\tn (i+1) s2.heap/\∀b∈fp,H' b=none) E s1) E s
 done:∀(X:Cx),X.prog=P->X.w=w->X.K=K->X.calm=true->∀(i:Nat) (pins:List (Addr×Obj)) (s:Shared) (σ:St) (H:Hp) (E:Value->Shared->Prop),Inv X pins σ H s->(∀b∈fp,FpOk X pins H b)->tn i s.heap->J.stop i H->
  wpAny (model P w) X.A (pyNext (.ref it)) (λr s1=>r=none/\Inv X pins σ H s1) E s
 self:∀(A:Around) (i:Nat) (s:Shared) (Q:Value->Shared->Prop) (E:Value->Shared->Prop),tn i s.heap->Q (.ref it) s->wpAny (model P w) A (pyIter (.ref it)) Q E s
abbrev TI:=St->Hp->(It->Hp->Prop)->Prop
noncomputable def PIE(X:Cx)(pins:List (Addr×Obj))(σ:St)(tg:Expr)(R:It->Hp->Prop)(itv:Value)(s2:Shared):Prop :=
 Ex5 λ(it:Addr) (fp:List Addr) (tn:Nat->Heap->Prop) (J:It) (H':Hp)=>itv = .ref it/\Inv X pins σ H' s2/\Turn X.prog X.w X.K tg J fp it tn/\tn 0 s2.heap/\(∀b∈fp,FpOk X pins H' b)/\R J H'
noncomputable def PI(X:Cx)(tg iter:Expr)(wi:TI):Prop :=
 ∀(pins:List (Addr×Obj)) (s:Shared) (σ:St) (H:Hp) (R:It->Hp->Prop),Inv X pins σ H s->wi σ H R->
  wpAny (model X.prog X.w) X.A (eval iter X.env) (λv s1=>wpAny (model X.prog X.w) X.A (pyIter v) (PIE X pins σ tg R) X.xe s1) X.xe s
theorem zgJ{s:Shared}{n:String}(ho:s.heap.get? it=some o)(hc:o.cls = .type n)(hd:o.data = .fields vs)
  (hn:["enumerate","zip","dict_itemiterator","dict_reverseitemiterator","odict_iterator","itertools.zip_longest","itertools.pairwise"].contains n=false) (hQ:Q () s):wpAny M A (letOwnedTupleGo tg (.ref it) u) Q E s:=by
 unfold letOwnedTupleGo;cases tg <;> first
  |exact wpAny_pure hQ
  |(cases u <;> first
    |exact wpAny_pure hQ
    |(refine wpAny_bind (wpAny_load ho ?_)
      rw[hc,hd];show wpAny M A (if (["enumerate","zip","dict_itemiterator","dict_reverseitemiterator","odict_iterator","itertools.zip_longest","itertools.pairwise"].contains n&&vs[0]?==some (rawInt _))=true then _ else _) Q E s;rw[if_neg (by intro h;rw[hn,Bool.false_and]at h;cases h)];exact wpAny_pure hQ))
noncomputable def Itl(K:PySem.W.Frag)(a:Addr):It :=
 ⟨λi H=>Ex2 λxs x=>SqL K H a xs/\xs[i]?=some x,λi H x H'=>H'=H/\∀xs,SqL K H a xs->xs[i]?=some x,λi H=>∃xs,SqL K H a xs/\xs.length<=i⟩
noncomputable def Itt(K:PySem.W.Frag)(a:Addr):It :=
 ⟨λi H=>Ex2 λxs x=>SqT K H a xs/\xs[i]?=some x,λi H x H'=>H'=H/\∀xs,SqT K H a xs->xs[i]?=some x,λi H=>∃xs,SqT K H a xs/\xs.length<=i⟩
def Itr(lo:Int)(n:Nat):It:=⟨λi _=>i<n,λi H x H'=>H'=H/\x = .int (lo+i),λi _=>n<=i⟩
theorem zgo{P:Program}{w:World}{K:PySem.W.Frag}{tg:Expr}(a it:Addr):Turn P w K tg (Itl K a) [it] it (λi h=>h.IsListIter it a i) where
 mem:=by simp
 obj:=λi h st b hb=>by
  have e:b=it:=by simpa using hb
  subst e;obtain⟨o,e,c,d⟩:=st;exact⟨o,e,λv z=>by rw[d]at z;cases z⟩
 keep:=λi h h' st k=>st.at λo e=>k it (by simp) o e
 item:=by
  intro X hP hw hK hc i pins s σ H E I hf st hg;subst hP hw hK;obtain⟨xs,x,hq,hx⟩:=hg;obtain⟨its,rv,p,hz⟩:=I.list hq;obtain⟨u,hu,ru⟩:=rv.get hx;obtain⟨f0,f1,f2,f3,f4,f5⟩:=hf it (by simp);refine wpAny_pyNext_list_item st p.isList (x:=u) (by simpa using hu) λh' st' sb=>?_
  have I1:Inv X pins σ H { s with heap:=h' }:=I.turned (t':=s.toks) (λb o hb e=>(sb.2 b hb).trans e) f0 f1 f3 f4 f5;obtain⟨o,e,c,d⟩:=id st';exact⟨u,rfl,zgJ (s:={ s with heap:=h' }) e c d (by decide) ⟨x,H,I1,ru,⟨rfl,λys hy=>by rw[I.list_inj hy hq];exact hx⟩,st',λb hb=>(hf b hb).1⟩⟩
 done:=by
  intro X hP hw hK hc i pins s σ H E I hf st hg;subst hP hw hK;obtain⟨xs,hq,hx⟩:=hg;obtain⟨its,rv,p,hz⟩:=I.list hq;obtain⟨f0,f1,f2,f3,f4,f5⟩:=hf it (by simp);have hl:=rv.length;exact wpAny_pyNext_list_end (I.ok.hd hc) st p.isList (by simp;lia) λh' eb=>⟨rfl,I.turned (t':=s.toks) (λb o hb e=>eb b o hb e) f0 f1 f3 f4 f5⟩
 self:=λ_ _ _ _ _ st h=>wpAny_pyIter_listiter st h
theorem zff{P:Program}{w:World}{K:PySem.W.Frag}{tg:Expr}(a it:Addr):Turn P w K tg (Itt K a) [it] it (λi h=>h.IsTupleIter it a i) where
 mem:=by simp
 obj:=λi h st b hb=>by
  have e:b=it:=by simpa using hb
  subst e;obtain⟨o,e,c,d⟩:=st;exact⟨o,e,λv z=>by rw[d]at z;cases z⟩
 keep:=λi h h' st k=>st.at λo e=>k it (by simp) o e
 item:=by
  intro X hP hw hK hc i pins s σ H E I hf st hg;subst hP hw hK;obtain⟨xs,x,hq,hx⟩:=hg;obtain⟨its,rv,p,hz⟩:=I.tuple hq;obtain⟨u,hu,ru⟩:=rv.get hx;obtain⟨f0,f1,f2,f3,f4,f5⟩:=hf it (by simp);refine wpAny_pyNext_tuple_item st (show s.heap.IsTuple a its.toArray from p) (x:=u) (by simpa using hu) λh' st' sb=>?_
  have I1:Inv X pins σ H { s with heap:=h' }:=I.turned (t':=s.toks) (λb o hb e=>(sb.2 b hb).trans e) f0 f1 f3 f4 f5;obtain⟨o,e,c,d⟩:=id st';exact⟨u,rfl,zgJ (s:={ s with heap:=h' }) e c d (by decide) ⟨x,H,I1,ru,⟨rfl,λys hy=>by rw[I.tuple_inj hy hq];exact hx⟩,st',λb hb=>(hf b hb).1⟩⟩
 done:=by
  intro X hP hw hK hc i pins s σ H E I hf st hg;subst hP hw hK;obtain⟨xs,hq,hx⟩:=hg;obtain⟨its,rv,p,hz⟩:=I.tuple hq;obtain⟨f0,f1,f2,f3,f4,f5⟩:=hf it (by simp);have hl:=rv.length;exact wpAny_pyNext_tuple_end (I.ok.hd hc) st (show s.heap.IsTuple a its.toArray from p) (by simp;lia) λh' eb=>⟨rfl,I.turned (t':=s.toks) (λb o hb e=>eb b o hb e) f0 f1 f3 f4 f5⟩
 self:=λ_ _ _ _ _ st h=>wpAny_pyIter_tupleiter st h
theorem yfl{P:Program}{w:World}{K:PySem.W.Frag}{tg:Expr}(it:Addr)(lo:Int)(n:Nat):Turn P w K tg (Itr lo n) [it] it (λi h=>IsRangeIter h it (lo+(i:Nat)*1) ((n:Int)-(i:Nat)) 1) where
 mem:=by simp
 obj:=λi h st b hb=>by
  have e:b=it:=by simpa using hb
  subst e;exact⟨_,st,λv z=>by
   have z':Data.fields _=Data.cell v:=z;cases z'⟩
 keep:=λi h h' st k=>k it (by simp) _ st
 item:=by
  intro X hP hw hK hc i pins s σ H E I hf st hg;subst hP hw hK;obtain⟨f0,f1,f2,f3,f4,f5⟩:=hf it (by simp);have W:=Walks.range (prog:=X.prog) (w:=X.w) (I.ok.hd hc) it lo 1 n;refine W.item i s _ _ hg st λv h' tk hv st' kk=>?_
  obtain⟨t,rfl⟩:=hv;have I1:Inv X pins σ H { s with heap:=h',toks:=tk }:=I.turned (λb o hb e=>kk b o (by simpa using hb) e) f0 f1 f3 f4 f5;refine⟨_,rfl,zgJ (s:={ s with heap:=h',toks:=tk }) (n:="range_iterator") st' rfl rfl (by decide) ⟨.int (lo+i),H,I1,⟨t,?_⟩,⟨rfl,rfl⟩,st',λb hb=>(hf b hb).1⟩⟩;rw[Int.mul_one]
 done:=by
  intro X hP hw hK hc i pins s σ H E I hf st hg;subst hP hw hK;obtain⟨f0,f1,f2,f3,f4,f5⟩:=hf it (by simp);exact wpAny_pyNext_range_end (I.ok.hd hc) st (by have:n<=i:=hg;lia) λh' eb=>⟨rfl,I.turned (t':=s.toks) (λb o hb e=>eb b o hb e) f0 f1 f3 f4 f5⟩
 self:=λ_ _ _ _ _ st h=>wpAny_pyIter_rangeiter st h
end L2
namespace L2
open PySem PySem.Spec PyProof.Rows
section
variable {X:Cx} {tg:Expr}
inductive GItl (K:PySem.W.Frag) (x:V) (H:Hp) (R:It->Hp->Prop):Prop
 |mk (a:Addr) (e:x = .ref a) (h:∃xs,SqL K H a xs) (q:R (Itl K a) H):GItl K x H R
inductive GItt (K:PySem.W.Frag) (x:V) (H:Hp) (R:It->Hp->Prop):Prop
 |mk (a:Addr) (e:x = .ref a) (h:∃xs,SqT K H a xs) (q:R (Itt K a) H):GItt K x H R
def zhZ(K:PySem.W.Frag)(tl:TE):TI:=λσ H R=>tl σ H λx H1=>GItl K x H1 R
def iTup(K:PySem.W.Frag)(tl:TE):TI:=λσ H R=>tl σ H λx H1=>GItt K x H1 R
theorem zaO{l:Expr}{tl:TE}(hl:PE X l tl):PI X tg l (zhZ X.K tl):=by
 intro pins s σ H R I h;refine thn (hl pins s σ H _ I h) λv s1 hq=>?_
 obtain⟨x,H1,I1,r1,q1⟩:=hq;obtain⟨a,e,⟨xs,hq⟩,q⟩:=q1;subst e;cases r1;obtain⟨its,rv,p,hz⟩:=I1.list hq;refine wpAny_pyIter_list p.isList ?_;refine⟨s1.heap.objs.size,[s1.heap.objs.size],_,_,H1,rfl,I1.kept (t':=s1.toks) λb o e=>Heap.get?_push_of_some _ e,zgo a _,⟨_,Heap.get?_push_size _ rfl,rfl,rfl⟩,λb hb=>?_,q⟩;have e:b=s1.heap.objs.size:=by simpa using hb
 subst e;exact I1.fpOk (Nat.le_refl _) (I1.hok.fresh (Nat.le_refl _))
theorem yb0{l:Expr}{tl:TE}(hl:PE X l tl):PI X tg l (iTup X.K tl):=by
 intro pins s σ H R I h;refine thn (hl pins s σ H _ I h) λv s1 hq=>?_
 obtain⟨x,H1,I1,r1,q1⟩:=hq;obtain⟨a,e,⟨xs,hq⟩,q⟩:=q1;subst e;cases r1;obtain⟨its,rv,p,hz⟩:=I1.tuple hq;refine wpAny_pyIter_tuple (show s1.heap.IsTuple a its.toArray from p) ?_;refine⟨s1.heap.objs.size,[s1.heap.objs.size],_,_,H1,rfl,I1.kept (t':=s1.toks) λb o e=>Heap.get?_push_of_some _ e,zff a _,⟨_,Heap.get?_push_size _ rfl,rfl,rfl⟩,λb hb=>?_,q⟩;have e:b=s1.heap.objs.size:=by simpa using hb
 subst e;exact I1.fpOk (Nat.le_refl _) (I1.hok.fresh (Nat.le_refl _))
theorem yeR{R:It->Hp->Prop}{lo hi:Int}{tk:Nat}(I:Inv X pins σ H s)(h1 : -(2^62)<=lo)(h2:lo<2^62)(h3 : -(2^62)<=hi)(h4:hi<2^62)
  (q:R (Itr lo (hi-lo).toNat) H):wpAny (model X.prog X.w) X.A (pyIter (.ref s.heap.objs.size)) (PIE X pins σ tg R) E { s with heap:=s.heap.push { cls:=.type "range",data:=.fields #[.int lo t,.int hi u,.int 1 v] },toks:=tk }:=by
 refine wpAny_pyIter_range (IsRange.new ..) (small_one h1 h2 h3 h4) ?_;have I1:Inv X pins σ H { s with heap:=s.heap.push { cls:=.type "range",data:=.fields #[.int lo t,.int hi u,.int 1 v] },toks:=tk }:=I.kept λb o e=>Heap.get?_push_of_some _ e
 refine⟨(s.heap.push { cls:=.type "range",data:=.fields #[.int lo t,.int hi u,.int 1 v] }).objs.size,[(s.heap.push { cls:=.type "range",data:=.fields #[.int lo t,.int hi u,.int 1 v] }).objs.size],_,_,H,rfl,
  I1.kept (t':=tk) λb o e=>Heap.get?_push_of_some _ e,yfl _ lo (hi-lo).toNat,?_,λb hb=>?_,q⟩
 ·have e1:lo+((0:Nat):Int)*1=lo:=by simp
  have e2:(((hi-lo).toNat:Nat):Int)-((0:Nat):Int)=Builtin.Range.rangeSize lo hi 1:=by rw[rangeSize_one];split <;> lia
  show IsRangeIter _ _ (lo+((0:Nat):Int)*1) ((((hi-lo).toNat:Nat):Int)-((0:Nat):Int)) 1;rw[e1,e2];exact Heap.get?_push_size _ rfl
 ·have e:b=(s.heap.push { cls:=.type "range",data:=.fields #[.int lo t,.int hi u,.int 1 v] }).objs.size:=by simpa using hb
  subst e;exact I1.fpOk (Nat.le_refl _) (I1.hok.fresh (Nat.le_refl _))
inductive GRng (vs:List V) (H:Hp) (R:It->Hp->Prop):Prop
 |mk (j:Int) (e:vs=[.int j]) (a : -(2^62)<=j) (b:j<2^62) (q:R (Itr 0 j.toNat) H):GRng vs H R
def yiy(ta:TA):TI:=λσ H R=>ta σ H λvs H1=>GRng vs H1 R
noncomputable def ziD(ta:TA):TI:=λσ H R=>ta σ H λvs H1=>Ex2 λ(i j:Int)=>vs=[.int i,.int j]/\(-(2^62)<=i/\i<2^62/\-(2^62)<=j/\j<2^62)/\R (Itr i (j-i).toNat) H1
theorem ydS{a:Expr}{ta:TA}{p pos:Pos}(hg:Gl X "range")(hm:X.mg "range"=none)(ha:PA X [a] ta)(hs:starEach [a] X.env=[(false,eval a X.env)]:=by rfl):PI X tg (.Call (.Name "range" p) [a] [] pos) (yiy ta):=by
 intro pins s σ H R I h;refine Call_ (zbs I hg hm boot_range (PyProof.Rows.callWith_type1 (thn (ha pos pins s σ H _ I h) λus s1 ⟨vs,H1,I1,r1,q1⟩=>?_) hs rfl));obtain⟨j,e,q1,q2,q⟩:=q1;subst e;cases r1 with
 |cons r rr=>
  cases rr;obtain⟨t,rfl⟩:=r;exact call_range_1 (yeR I1 (by lia) (by lia) q1 q2 (by simpa using q))
theorem zcP{a b:Expr}{ta:TA}{p pos:Pos}(hg:Gl X "range")(hm:X.mg "range"=none)(ha:PA X [a,b] ta)(hs:starEach [a,b] X.env=[(false,eval a X.env),(false,eval b X.env)]:=by rfl)(hs2:starEach [b] X.env=[(false,eval b X.env)]:=by rfl) :
  PI X tg (.Call (.Name "range" p) [a,b] [] pos) (ziD ta):=by
 intro pins s σ H R I h;refine Call_ (zbs I hg hm boot_range (PyProof.Rows.callWith_type1 (thn (ha pos pins s σ H _ I h) λus s1 ⟨vs,H1,I1,r1,q1⟩=>?_) (by rw[hs,hs2]) (by rw[hs2];rfl)));obtain⟨i,j,e,⟨q1,q2,q3,q4⟩,q⟩:=q1;subst e;cases r1 with
 |cons r rr=>
  cases rr with
  |cons r' rr=>
   cases rr;obtain⟨t,rfl⟩:=r;obtain⟨t',rfl⟩:=r';exact call_range_2 (yeR I1 q1 q2 q3 q4 q)
noncomputable def tFor(wi:TI)(g:TG)(tb:TS):TS:=λD σ H=>wi σ H λJ H1=>∃W:Nat->Nat->St->Hp->Prop,(∃m,W 0 m σ H1)/\∀i m σ H,W i m σ H->
 (J.stop i H/\D.nx σ H)\/(J.go i H/\∃N:St->Hp->Prop,(∀σ' H',N σ' H'->∃m',m'<m/\W (i+1) m' σ' H')/\∀x H',J.yld i H x H'->g x σ H' λσ2 H2=>tb { D with nx:=N,ct:=N,bk:=D.nx } σ2 H2)
def ycn(fp:List Addr)(h:Heap):List (Addr×Obj):=fp.filterMap λb=>(h.get? b).map λo=>(b,o)
theorem yaZ(hb:b∈fp)(e:h.get? b=some o):(b,o)∈ycn fp h:=List.mem_filterMap.mpr ⟨b,hb,by rw[e];rfl⟩
theorem ydV{p:Addr×Obj}(hp:p∈ycn fp h):p.1∈fp/\h.get? p.1=some p.2:=by
 obtain⟨b,hb,e⟩:=List.mem_filterMap.mp hp;cases q:h.get? b with
 |none=>rw[q]at e;cases e
 |some o=>
  rw[q]at e;have e':(b,o)=p:=Option.some.inj e;subst e';exact⟨hb,q⟩
theorem Inv.pinned(I:Inv X pins σ H s)(hf:∀b∈fp,FpOk X pins H b)(ho:∀b∈fp,∃o,s.heap.get? b=some o/\∀v,o.data≠.cell v):Inv X (pins++ycn fp s.heap) σ H s :=
 I.pins_of λp hp=>(List.mem_append.mp hp).elim (λz=>I.pin p (List.mem_append_right _ z)) λz=>by
  obtain⟨hb,e⟩:=ydV z;obtain⟨f0,f1,f2,_⟩:=hf p.1 hb;obtain⟨o,e',d⟩:=ho p.1 hb;rw[e]at e';cases e';exact⟨e,f0,f1,f2,d⟩
theorem Inv.unpinned(I:Inv X (pins++pl) σ H s):Inv X pins σ H s:=I.pins_of λp hp=>I.pin p (List.mem_append_right _ (List.mem_append_left _ hp))
theorem zh2{iter:Expr}{body:List Stmt}{wi:TI}{g:TG}{tb:TS}{pos:Pos}(hp:PassesOwn (model X.prog X.w) X.A X.env X.xe)(hc:X.calm=true)(hi:PI X tg iter wi)(hg:PG X tg g)(hb:PSs X body tb)
  (hs:∀x,foldedSetIterable iter X.env x=pure x:=by intro _;rfl):PS X (.For tg iter body [] pos) (tFor wi g tb):=by
 intro pins s σ H D I h;refine wpAny_For (thn (hi pins s σ H _ I h) λv s1 h1=>thn h1 λitv s2 h2=>?_) hs;obtain⟨it,fp,tn,J,H2,e,I2,T,st2,f2,W,⟨m0,w0⟩,turn⟩:=h2;subst e;have stat:∀ {H':Hp},(∀b∈fp,H' b=none)->∀b∈fp,FpOk X pins H' b:=λhn b hb=>⟨hn b hb,(f2 b hb).2⟩
 refine codeAny_forLoop_any (λn s'=>Ex3 λi σ' H'=>Inv X pins σ' H' s'/\tn i s'.heap/\(∀b∈fp,H' b=none)/\W i n σ' H') ?_ m0 ⟨0,σ,H2,I2,st2,λb hb=>(f2 b hb).1,w0⟩;rintro n s3 ⟨i,σ3,H3,I3,st3,fr3,w3⟩;rcases turn i n σ3 H3 w3 with⟨stop,qn⟩ |⟨go,N,hN,step⟩
 ·refine wpAny_passesOwn hp (thn (T.done X rfl rfl rfl hc i pins s3 σ3 H3 X.xe I3 (stat fr3) st3 stop) λr s4 hq=>?_);obtain⟨hr,I4⟩:=hq;subst hr;exact wpAny_execs_nil ⟨σ3,H3,I4,qn⟩
 ·refine wpAny_passesOwn hp (thn (T.item X rfl rfl rfl hc i pins s3 σ3 H3 X.xe I3 (stat fr3) st3 go) λr s4 hq=>?_);obtain⟨u,hr,h4⟩:=hq;subst hr;refine wpAny_passesOwn hp (thn h4 λ_ s5 hq=>?_);obtain⟨x,H5,I5,r5,y5,st5,fr5⟩:=hq;have I5':=I5.pinned (stat fr5) (T.obj _ _ st5);refine wpAny_passesOwn hp (thn (hg _ s5 σ3 H5 x u _ I5' r5 (step x H5 y5)) λ_ s6 hq=>?_);obtain⟨σ6,H6,I6,q6⟩:=hq;refine wpAny_passesOwn hp (thn (hb _ s6 σ6 H6 _ I6 q6) λf s7 q7=>?_);have again:∀ {σ7:St} {H7:Hp},Inv X (pins++ycn fp s5.heap) σ7 H7 s7->N σ7 H7->∃m,m<n/\Ex3 λi σ' H'=>Inv X pins σ' H' s7/\tn i s7.heap/\(∀b∈fp,H' b=none)/\W i m σ' H':=λ{σ7 H7} I7 n7=>by
   obtain⟨m',hm,w7⟩:=hN σ7 H7 n7;refine⟨m',hm,i+1,σ7,H7,I7.unpinned,T.keep _ _ _ st5 λb hb o e=>(I7.pin (b,o) (List.mem_append_right _ (List.mem_append_right _ (yaZ hb e)))).1,λb hb=>?_,w7⟩;obtain⟨o,e,d⟩:=T.obj _ _ st5 b hb;exact(I7.pin (b,o) (List.mem_append_right _ (List.mem_append_right _ (yaZ hb e)))).2.1
  cases f with
  |next=>obtain⟨σ7,H7,I7,n7⟩:=q7;exact again I7 n7
  |cont=>obtain⟨σ7,H7,I7,n7⟩:=q7;exact again I7 n7
  |brk=>obtain⟨σ7,H7,I7,q7⟩:=q7;exact⟨σ7,H7,I7.unpinned,q7⟩
  |ret v=>obtain⟨x7,σ7,H7,I7,r7,q7⟩:=q7;exact⟨x7,σ7,H7,I7.unpinned,r7,q7⟩
end
theorem ydF{K:PySem.W.Frag}{a:Addr}{xs:List V}{g:TG}{tb:TS}{D:Ends}{σ:St}{H:Hp}(Pv:Nat->St->Hp->Prop)(h0:Pv 0 σ H)(hl:∀i σ H,i<=xs.length->Pv i σ H->SqL K H a xs)
  (hs:∀i x σ H,xs[i]?=some x->Pv i σ H->g x σ H λσ2 H2=>tb { D with nx:=Pv (i+1),ct:=Pv (i+1),bk:=D.nx } σ2 H2) (hd:∀σ H,Pv xs.length σ H->D.nx σ H) :
  ∃W:Nat->Nat->St->Hp->Prop,(∃m,W 0 m σ H)/\∀i m σ H,W i m σ H->
   ((Itl K a).stop i H/\D.nx σ H)\/((Itl K a).go i H/\∃N:St->Hp->Prop,(∀σ' H',N σ' H'->∃m',m'<m/\W (i+1) m' σ' H')/\∀x H',(Itl K a).yld i H x H'->g x σ H' λσ2 H2=>tb { D with nx:=N,ct:=N,bk:=D.nx } σ2 H2):=by
 refine⟨λi m σ H=>m=xs.length-i/\i<=xs.length/\Pv i σ H,⟨xs.length,by simp,Nat.zero_le _,h0⟩,?_⟩;rintro i m σ H ⟨rfl,hi,p⟩;have q:=hl i σ H hi p;by_cases hlt:i<xs.length
 ·refine .inr ⟨⟨xs,xs[i],q,by simp[hlt]⟩,Pv (i+1),λσ' H' p'=>⟨xs.length-(i+1),by lia,rfl,hlt,p'⟩,λx H' y=>?_⟩;obtain⟨e,y⟩:=y;subst e;exact hs i x σ _ (y xs q) p
 ·have e:i=xs.length:=by lia
  subst e;exact .inl ⟨⟨xs,q,Nat.le_refl _⟩,hd σ H p⟩
theorem zay{lo:Int}{n:Nat}{g:TG}{tb:TS}{D:Ends}{σ:St}{H:Hp}(Pv:Nat->St->Hp->Prop)(h0:Pv 0 σ H)
  (hs:∀i σ H,i<n->Pv i σ H->g (.int (lo+i)) σ H λσ2 H2=>tb { D with nx:=Pv (i+1),ct:=Pv (i+1),bk:=D.nx } σ2 H2) (hd:∀σ H,Pv n σ H->D.nx σ H) :
  ∃W:Nat->Nat->St->Hp->Prop,(∃m,W 0 m σ H)/\∀i m σ H,W i m σ H->
   ((Itr lo n).stop i H/\D.nx σ H)\/((Itr lo n).go i H/\∃N:St->Hp->Prop,(∀σ' H',N σ' H'->∃m',m'<m/\W (i+1) m' σ' H')/\∀x H',(Itr lo n).yld i H x H'->g x σ H' λσ2 H2=>tb { D with nx:=N,ct:=N,bk:=D.nx } σ2 H2):=by
 refine⟨λi m σ H=>m=n-i/\i<=n/\Pv i σ H,⟨n,by simp,Nat.zero_le _,h0⟩,?_⟩;rintro i m σ H ⟨rfl,hi,p⟩;by_cases hlt:i<n
 ·refine .inr ⟨hlt,Pv (i+1),λσ' H' p'=>⟨n-(i+1),by lia,rfl,hlt,p'⟩,λx H' y=>?_⟩;obtain⟨e,y⟩:=y;subst e y;exact hs i σ _ hlt p
 ·have e:i=n:=by lia
  subst e;exact .inl ⟨Nat.le_refl _,hd σ H p⟩
end L2
namespace L2
open PySem PySem.Spec PyProof.Rows
abbrev R2:=V->V->Hp->VK->Prop
noncomputable def OpR(X:Cx)(f:Value->Value->Sem Value)(r:R2):Prop :=
 ∀(pins:List (Addr×Obj)) (s:Shared) (σ:St) (H:Hp) (x y:V) (v u:Value) (Q:VK),Inv X pins σ H s->RelV x v->RelV y u->r x y H Q->
  wpAny (model X.prog X.w) X.A (f v u) (EP X pins σ Q) X.xe s
noncomputable def UnR(X:Cx)(f:Value->Sem Value)(r:V->Hp->VK->Prop):Prop :=
 ∀(pins:List (Addr×Obj)) (s:Shared) (σ:St) (H:Hp) (x:V) (v:Value) (Q:VK),Inv X pins σ H s->RelV x v->r x H Q->
  wpAny (model X.prog X.w) X.A (f v) (EP X pins σ Q) X.xe s
noncomputable def ya4(X:Cx)(f:Value)(r:List V->Hp->VK->Prop):Prop :=
 ∀(pins:List (Addr×Obj)) (s:Shared) (σ:St) (H:Hp) (xs:List V) (us:List Value) (Q:VK),Inv X pins σ H s->Vals xs us->r xs H Q->
  wpAny (model X.prog X.w) X.A (call f us) (EP X pins σ Q) X.xe s
def tOp(r:R2)(ta tb:TE):TE:=λσ H Q=>ta σ H λx H1=>tb σ H1 λy H2=>r x y H2 Q
def tUn(r:V->Hp->VK->Prop)(ta:TE):TE:=λσ H Q=>ta σ H λx H1=>r x H1 Q
inductive GI (C:Int->Int->Prop) (g:Int->Int->V) (x y:V) (H:Hp) (Q:VK):Prop
 |mk (i j:Int) (a:x = .int i) (b:y = .int j) (q:C i j/\Q (g i j) H):GI C g x y H Q
def rI(C:Int->Int->Prop)(g:Int->Int->V):R2:=λx y H Q=>GI C g x y H Q
inductive GI0 (g:Int->Int->V) (x y:V) (H:Hp) (Q:VK):Prop
 |mk (i j:Int) (a:x = .int i) (b:y = .int j) (q:Q (g i j) H):GI0 g x y H Q
def rI0(g:Int->Int->V):R2:=λx y H Q=>GI0 g x y H Q
def rU(g:Int->V):V->Hp->VK->Prop:=λx H Q=>∃i,x = .int i/\Q (g i) H
section
variable {X:Cx} {a b c:Expr} {ta tb tc:TE} {pos:Pos}
theorem binT(ha:PE X a ta)(hb:PE X b tb){R:V->V->Hp->Prop}(I:Inv X pins σ H s)
  (h:ta σ H λx H1=>tb σ H1 λy H2=>R x y H2) {f:Value->Value->Sem Value}
  (hf:∀v u s2 x y H2,Inv X pins σ H2 s2->RelV x v->RelV y u->R x y H2->wpAny (model X.prog X.w) X.A (f v u) Q X.xe s2) :
  wpAny (model X.prog X.w) X.A (eval a X.env) (λv s₁=>wpAny (model X.prog X.w) X.A (eval b X.env) (λu s₂=>wpAny (model X.prog X.w) X.A (f v u) Q X.xe s₂) X.xe s₁) X.xe s:=by
 refine thn (ha pins s σ H _ I h) λv s1 hq=>?_
 obtain⟨x,H1,I1,r1,q1⟩:=hq;refine thn (hb pins s1 σ H1 _ I1 q1) λu s2 hq=>?_
 obtain⟨y,H2,I2,r2,q2⟩:=hq;exact hf v u s2 x y H2 I2 r1 r2 q2
theorem yhU{op:Operator}{r:R2}(ho:OpR X (binaryOp op) r)(ha:PE X a ta)(hb:PE X b tb):PE X (.BinOp a op b pos) (tOp r ta tb):=by
 intro pins s σ H Q I h;exact wpAny_BinOp (binT ha hb I h λv u s2 x y H2 I2 rx ry q=>ho pins s2 σ H2 x y v u Q I2 rx ry q)
theorem yfk{op:UnaryOp}{r:V->Hp->VK->Prop}(ho:UnR X (unaryOp op) r)(ha:PE X a ta):PE X (.UnaryOp op a pos) (tUn r ta):=by
 intro pins s σ H Q I h;exact UnaryOp_ (thn (ha pins s σ H _ I h) λv s1 ⟨x,H1,I1,r1,q1⟩=>ho pins s1 σ H1 x v Q I1 r1 q1)
theorem opI{f:Value->Value->Sem Value}{C:Int->Int->Prop}{g:Int->Int->Int}
  (rule:∀(i j:Int) (t u:Tok) (s:Shared) (Q:Value->Shared->Prop) (E:Value->Shared->Prop),C i j->Q (.int (g i j) s.toks) { s with toks:=s.toks+1 }->wpAny (model X.prog X.w) X.A (f (.int i t) (.int j u)) Q E s) :
  OpR X f (rI C λi j=>.int (g i j)):=by
 intro pins s σ H x y v u Q I rx ry h;obtain⟨i,j,rfl,rfl,hc,q⟩:=h;obtain⟨t,rfl⟩:=rx;obtain⟨t',rfl⟩:=ry;exact rule i j t t' s _ _ hc ⟨.int (g i j),H,I.tok _,⟨_,rfl⟩,q⟩
theorem opI0{f:Value->Value->Sem Value}{g:Int->Int->Int}
  (rule:∀(i j:Int) (t u:Tok) (s:Shared) (Q:Value->Shared->Prop) (E:Value->Shared->Prop),Q (.int (g i j) s.toks) { s with toks:=s.toks+1 }->wpAny (model X.prog X.w) X.A (f (.int i t) (.int j u)) Q E s) :
  OpR X f (rI0 λi j=>.int (g i j)):=by
 intro pins s σ H x y v u Q I rx ry h;obtain⟨i,j,rfl,rfl,q⟩:=h;obtain⟨t,rfl⟩:=rx;obtain⟨t',rfl⟩:=ry;exact rule i j t t' s _ _ ⟨.int (g i j),H,I.tok _,⟨_,rfl⟩,q⟩
theorem opB0{f:Value->Value->Sem Value}{g:Int->Int->Bool}
  (rule:∀(i j:Int) (t u:Tok) (s:Shared) (Q:Value->Shared->Prop) (E:Value->Shared->Prop),Q (.bool (g i j)) s->wpAny (model X.prog X.w) X.A (f (.int i t) (.int j u)) Q E s) :
  OpR X f (rI0 λi j=>.bl (g i j)):=by
 intro pins s σ H x y v u Q I rx ry h;obtain⟨i,j,rfl,rfl,q⟩:=h;obtain⟨t,rfl⟩:=rx;obtain⟨t',rfl⟩:=ry;exact rule i j t t' s _ _ ⟨.bl (g i j),H,I,rfl,q⟩
def CDiv(i j:Int):Prop:=0<j/\j<1073741824
def CPow(i j:Int):Prop:=0<=j/\j<=1000000/\i.natAbs<2^64
def CMul(i j:Int):Prop:=(-(2^64)<i/\i<2^64)\/(-(2^64)<j/\j<2^64)
theorem CMul.ok{i j:Int}(h:CMul i j):IntMulOk i j:=by
 rcases h with⟨h1,h2⟩ |⟨h1,h2⟩
 ·exact .of_left (intBits_le_64 h1 h2)
 ·exact .of_right (intBits_le_64 h1 h2)
theorem yag:OpR X (binaryOp .Add) (rI0 λi j=>.int (i+j)):=opI0 λ_ _ _ _ _ _ _ q=>add_int q
theorem yan:OpR X (binaryOp .Sub) (rI0 λi j=>.int (i-j)):=opI0 λ_ _ _ _ _ _ _ q=>sub_int q
theorem zav:OpR X (binaryOp .Mult) (rI CMul λi j=>.int (i*j)):=opI λ_ _ _ _ _ _ _ hc q=>mul_int q hc.ok
theorem zix:OpR X (binaryOp .FloorDiv) (rI CDiv λi j=>.int (i/j)):=opI λi j _ _ _ _ _ hc q=>by
 have h1:(0:Int)<j:=hc.1;have h2:j<1073741824:=hc.2;exact floordiv_int (by lia) (by rw[Int.fdiv_eq_ediv_of_nonneg i (by lia)];exact q) (.inl (PyProof.noPylong_small (by lia)))
theorem zax:OpR X (binaryOp .Mod) (rI (λ_ j=>0<j) λi j=>.int (i%j)):=opI λi j _ _ _ _ _ hc q=>by
 have h1:(0:Int)<j:=hc;exact mod_int' (by lia) (by rw[Int.fmod_eq_emod_of_nonneg i (by lia)];exact q)
theorem zdU:OpR X (binaryOp .Pow) (rI CPow λi j=>.int (i^j.toNat)):=opI λ_ _ _ _ _ _ _ hc q=>pow_int_small hc.1 hc.2.1 hc.2.2 q
theorem yip:OpR X (binaryOp .BitXor) (rI0 λi j=>.int (Builtin.bitXor i j)):=opI0 λ_ _ _ _ _ _ _ q=>xor_int q
theorem ycG:OpR X (inplaceOp .Add) (rI0 λi j=>.int (i+j)):=opI0 λ_ _ _ _ _ _ _ q=>iadd_int q
theorem yhL:OpR X (inplaceOp .Sub) (rI0 λi j=>.int (i-j)):=opI0 λ_ _ _ _ _ _ _ q=>isub_int q
theorem zex:OpR X (inplaceOp .Mult) (rI CMul λi j=>.int (i*j)):=opI λ_ _ _ _ _ _ _ hc q=>imul_int q hc.ok
theorem unI{f:Value->Sem Value}{g:Int->Int}
  (rule:∀(i:Int) (t:Tok) (s:Shared) (Q:Value->Shared->Prop) (E:Value->Shared->Prop),Q (.int (g i) s.toks) { s with toks:=s.toks+1 }->wpAny (model X.prog X.w) X.A (f (.int i t)) Q E s) :
  UnR X f (rU λi=>.int (g i)):=by
 intro pins s σ H x v Q I rx h;obtain⟨i,rfl,q⟩:=h;obtain⟨t,rfl⟩:=rx;exact rule i t s _ _ ⟨.int (g i),H,I.tok _,⟨_,rfl⟩,q⟩
theorem ydh:UnR X (unaryOp .USub) (rU λi=>.int (-i)):=unI λ_ _ _ _ _ q=>neg_int q
end
noncomputable def scal:V->V->Bool
 | .non,.non=>true | .non,.int _=>true | .int _,.non=>true | .non,.bl _=>true | .bl _,.non=>true | .non,.str _=>true | .str _,.non=>true
 | .int _,.int _=>true | .bl _,.bl _=>true | .str _,.str _=>true | .byt _,.byt _=>true
 | .int _,.str _=>true | .str _,.int _=>true | .bl _,.str _=>true | .str _,.bl _=>true
 |_,_=>false
inductive GEq (x y:V) (H:Hp) (Q:VK):Prop
 |mk (h:scal x y=true) (q:Q (.bl (decide (x=y))) H):GEq x y H Q
def rEq:R2:=λx y H Q=>GEq x y H Q
inductive GNe (x y:V) (H:Hp) (Q:VK):Prop
 |mk (h:scal x y=true) (q:Q (.bl (!decide (x=y))) H):GNe x y H Q
def rNe:R2:=λx y H Q=>GNe x y H Q
theorem zgk{i j:Int}:decide (V.int i=V.int j)=(i==j):=by
 rw[Bool.eq_iff_iff];simp
theorem yg7{i j:Bool}:decide (V.bl i=V.bl j)=(i==j):=by
 rw[Bool.eq_iff_iff];simp
theorem zfU:decide (V.str i=V.str j)=(i==j):=by
 rw[Bool.eq_iff_iff];simp
theorem zf8{i j:Array UInt8}:decide (V.byt i=V.byt j)=(i.toList==j.toList):=by
 rw[Bool.eq_iff_iff];cases i;cases j;simp
section
variable {X:Cx} {a b c:Expr} {ta tb tc:TE} {pos:Pos}
theorem yaq{k k':Bool}(I:Inv X pins σ H s)(q:Q (.bl k) H)(e:k=k'):EP X pins σ Q (.bool k') s:=by
 subst e;exact⟨.bl k,H,I,rfl,q⟩
theorem zbN:OpR X (compareOp .Eq) rEq:=by
 intro pins s σ H x y v u Q I rx ry h;obtain⟨hs,q⟩:=h;cases x with
 |non=>
  cases rx;cases y with
  |non=>cases ry;exact PySem.EqNone.eq_none_none (yaq I q (by simp))
  |bl j=>cases ry;exact PySem.EqNone.eq_none_bool (yaq I q (by simp))
  |int j=>obtain⟨t',rfl⟩:=ry;exact PySem.EqNone.eq_none_int (yaq I q (by simp))
  |str j=>obtain⟨t',rfl⟩:=ry;exact PySem.EqNone.eq_none_str (yaq I q (by simp))
  |_=>exact absurd (show false=true from hs) Bool.false_ne_true
 |bl i=>
  cases rx;cases y with
  |non=>cases ry;exact PySem.EqNone.eq_bool_none (yaq I q (by simp))
  |bl j=>cases ry;exact eq_bool (yaq I q yg7)
  |str j=>obtain⟨t',rfl⟩:=ry;exact PySem.EqMixed.eq_bool_str (yaq I q (by simp))
  |_=>exact absurd (show false=true from hs) Bool.false_ne_true
 |int i=>
  obtain⟨t,rfl⟩:=rx;cases y with
  |non=>cases ry;exact PySem.EqNone.eq_int_none (yaq I q (by simp))
  |int j=>obtain⟨t',rfl⟩:=ry;exact eq_int (yaq I q zgk)
  |str j=>obtain⟨t',rfl⟩:=ry;exact PySem.EqMixed.eq_int_str (yaq I q (by simp))
  |_=>exact absurd (show false=true from hs) Bool.false_ne_true
 |str i=>
  obtain⟨t,rfl⟩:=rx;cases y with
  |non=>cases ry;exact PySem.EqNone.eq_str_none (yaq I q (by simp))
  |bl j=>cases ry;exact PySem.EqMixed.eq_str_bool (yaq I q (by simp))
  |int j=>obtain⟨t',rfl⟩:=ry;exact PySem.EqMixed.eq_str_int (yaq I q (by simp))
  |str j=>obtain⟨t',rfl⟩:=ry;exact eq_str (yaq I q zfU)
  |_=>exact absurd (show false=true from hs) Bool.false_ne_true
 |byt i=>
  obtain⟨t,rfl⟩:=rx;cases y with
  |byt j=>obtain⟨t',rfl⟩:=ry;exact PySem.W.eq_bytes (yaq I q zf8)
  |_=>exact absurd (show false=true from hs) Bool.false_ne_true
 |_=>cases y <;> exact absurd (show false=true from hs) Bool.false_ne_true
theorem zd2:OpR X (compareOp .NotEq) rNe:=by
 intro pins s σ H x y v u Q I rx ry h;obtain⟨hs,q⟩:=h;cases x with
 |non=>
  cases rx;cases y with
  |non=>cases ry;exact PySem.EqNone.ne_none_none (yaq I q (by simp))
  |bl j=>cases ry;exact PySem.EqNone.ne_none_bool (yaq I q (by simp))
  |int j=>obtain⟨t',rfl⟩:=ry;exact PySem.EqNone.ne_none_int (yaq I q (by simp))
  |str j=>obtain⟨t',rfl⟩:=ry;exact PySem.EqNone.ne_none_str (yaq I q (by simp))
  |_=>exact absurd (show false=true from hs) Bool.false_ne_true
 |bl i=>
  cases rx;cases y with
  |non=>cases ry;exact PySem.EqNone.ne_bool_none (yaq I q (by simp))
  |bl j=>cases ry;exact ne_bool (yaq I q (congrArg not yg7))
  |str j=>obtain⟨t',rfl⟩:=ry;exact PySem.EqMixed.ne_bool_str (yaq I q (by simp))
  |_=>exact absurd (show false=true from hs) Bool.false_ne_true
 |int i=>
  obtain⟨t,rfl⟩:=rx;cases y with
  |non=>cases ry;exact PySem.EqNone.ne_int_none (yaq I q (by simp))
  |int j=>obtain⟨t',rfl⟩:=ry;exact ne_int (yaq I q (congrArg not zgk))
  |str j=>obtain⟨t',rfl⟩:=ry;exact PySem.EqMixed.ne_int_str (yaq I q (by simp))
  |_=>exact absurd (show false=true from hs) Bool.false_ne_true
 |str i=>
  obtain⟨t,rfl⟩:=rx;cases y with
  |non=>cases ry;exact PySem.EqNone.ne_str_none (yaq I q (by simp))
  |bl j=>cases ry;exact PySem.EqMixed.ne_str_bool (yaq I q (by simp))
  |int j=>obtain⟨t',rfl⟩:=ry;exact PySem.EqMixed.ne_str_int (yaq I q (by simp))
  |str j=>obtain⟨t',rfl⟩:=ry;exact ne_str (yaq I q (congrArg not zfU))
  |_=>exact absurd (show false=true from hs) Bool.false_ne_true
 |byt i=>
  obtain⟨t,rfl⟩:=rx;cases y with
  |byt j=>obtain⟨t',rfl⟩:=ry;exact PySem.W.ne_bytes (yaq I q (congrArg not zf8))
  |_=>exact absurd (show false=true from hs) Bool.false_ne_true
 |_=>cases y <;> exact absurd (show false=true from hs) Bool.false_ne_true
theorem zhP:OpR X (compareOp .Lt) (rI0 λi j=>.bl (decide (i<j))):=opB0 λ_ _ _ _ _ _ _ q=>lt_int q
theorem yco:OpR X (compareOp .Gt) (rI0 λi j=>.bl (decide (j<i))):=opB0 λ_ _ _ _ _ _ _ q=>gt_int q
theorem ziK:OpR X (compareOp .GtE) (rI0 λi j=>.bl (decide (j<=i))):=opB0 λ_ _ _ _ _ _ _ q=>ge_int q
theorem ydi(b:Expr){op:CmpOp}(h:op≠.In:=by decide)(h2:op≠.NotIn:=by decide):behindInMarks op b=false:=by
 have e1:(op==CmpOp.In)=false:=by cases op <;> first|rfl|exact absurd rfl h
 have e2:(op==CmpOp.NotIn)=false:=by cases op <;> first|rfl|exact absurd rfl h2
 cases b <;> simp[behindInMarks,e1,e2]
theorem zcC{op:CmpOp}{r:R2}(ho:OpR X (compareOp op) r)(ha:PE X a ta)(hb:PE X b tb)(hm:behindInMarks op b=false):PE X (.Compare a [op] [b] pos) (tOp r ta tb):=by
 intro pins s σ H Q I h;exact wpAny_Compare1 (binT ha hb I h λv u s2 x y H2 I2 rx ry q=>ho pins s2 σ H2 x y v u Q I2 rx ry q) hm
inductive GBl (x:V) (H:Hp) (Q:Bool->Hp->Prop):Prop
 |mk (k:Bool) (e:x = .bl k) (q:Q k H):GBl x H Q
def yiD(t:TE):TT:=λσ H Q=>t σ H λx H'=>GBl x H' Q
theorem yhh{op:CmpOp}{r:R2}(ho:OpR X (compareOp op) r)(ha:PE X a ta)(hb:PE X b tb)(hm:behindInMarks op b=false):PT X (.Compare a [op] [b] pos) (yiD (tOp r ta tb)):=by
 intro pins s σ H Q I h;refine wpAny_isTrue_Compare1 (thn (ha pins s σ H _ I h) λv s1 ⟨x,H1,I1,r1,q1⟩=>thn (hb pins s1 σ H1 _ I1 q1) λu s2 ⟨y,H2,I2,r2,q2⟩=>
  thn (ho pins s2 σ H2 x y v u _ I2 r1 r2 q2) λc s3 ⟨z,H3,I3,r3,k,e,q3⟩=>?_) hm
 subst e;cases r3;exact wpAny_truthy_bool ⟨H3,I3,q3⟩
theorem zdR:(sizeLine:Nat)<2^63:=by rw[sizeLine_eq];decide
theorem zcg(r:Vals [x] us):∃u,us=[u]/\RelV x u:=by
 cases r with
 |cons r1 r2=>cases r2;exact⟨_,rfl,r1⟩
theorem zhU(r:Vals [x,y] us):Ex2 λu w'=>us=[u,w']/\RelV x u/\RelV y w':=by
 cases r with
 |cons r1 r2=>
  cases r2 with
  |cons r3 r4=>cases r4;exact⟨_,_,rfl,r1,r3⟩
theorem zeV:ya4 X (.builtin "abs") (λxs H Q=>∃i,xs=[.int i]/\Q (.int (if i<0 then -i else i)) H):=by
 intro pins s σ H xs us Q I r h;obtain⟨i,rfl,q⟩:=h;obtain⟨u,rfl,t,rfl⟩:=zcg r;exact call_abs_int λu tk=>⟨.int (if i<0 then -i else i),H,I.tok _,⟨_,rfl⟩,q⟩
theorem zd0(hc:X.calm=true):ya4 X (.builtin "max") (λxs H Q=>Ex2 λi j=>xs=[.int i,.int j]/\Q (.int (if j>i then j else i)) H):=by
 intro pins s σ H xs us Q I r h;obtain⟨i,j,rfl,q⟩:=h;obtain⟨u,w',rfl,⟨t,rfl⟩,⟨t',rfl⟩⟩:=zhU r;refine max_two_ints (I.ok.hd hc) λh' tk k=>⟨_,H,I.kept k,?_,q⟩
 by_cases hj:j>i
 ·rw[if_pos hj,if_pos hj];exact⟨_,rfl⟩
 ·rw[if_neg hj,if_neg hj];exact⟨_,rfl⟩
theorem zfz(hc:X.calm=true):ya4 X (.builtin "min") (λxs H Q=>Ex2 λi j=>xs=[.int i,.int j]/\Q (.int (if j<i then j else i)) H):=by
 intro pins s σ H xs us Q I r h;obtain⟨i,j,rfl,q⟩:=h;obtain⟨u,w',rfl,⟨t,rfl⟩,⟨t',rfl⟩⟩:=zhU r;refine min_two_ints (I.ok.hd hc) λh' tk k=>⟨_,H,I.kept k,?_,q⟩
 by_cases hj:j<i
 ·rw[if_pos hj,if_pos hj];exact⟨_,rfl⟩
 ·rw[if_neg hj,if_neg hj];exact⟨_,rfl⟩
theorem yfF:ya4 X (.type "int") (λxs H Q=>(∃i,xs=[.int i]/\Q (.int i) H)\/∃k,xs=[.bl k]/\Q (.int (if k then 1 else 0)) H):=by
 intro pins s σ H xs us Q I r h;rcases h with⟨i,rfl,q⟩ |⟨k,rfl,q⟩
 ·obtain⟨u,rfl,t,rfl⟩:=zcg r;exact call_int_int ⟨.int i,H,I,⟨_,rfl⟩,q⟩
 ·obtain⟨u,rfl,r1⟩:=zcg r;cases r1;exact call_int_bool ⟨.int (if k then 1 else 0),H,I.tok _,⟨_,rfl⟩,q⟩
end
end L2
namespace L2
open PySem PySem.Spec PyProof.Rows
structure ObjM(h:Heap)(x dx C:Addr)(mA:Str->Option Value):Prop where
 obj:h.get? x=some (PySem.W.instObj C dx)
 ns:h.Ns1 dx mA
 ne:dx≠x
theorem RelO.some_of{v:V}{o:Option Value}(r:RelO (some v) o):∃u,o=some u/\RelV v u:=by
 cases o with
 |none=>exact(show False from r).elim
 |some u=>exact⟨u,rfl,r⟩
structure Cls(K:PySem.W.Frag)(C:Addr):Prop where
 pg:PySem.W.plainGet K C Str.empty=true
 hd:PySem.W.hasDictIn K C=true
 po:PySem.W.plainOver K C=true
 sa:PySem.W.findIn K (.ref C) "__setattr__"=some (some (.builtin "object.__setattr__"))
structure Con(K:PySem.W.Frag)(C:Addr)(f:Str)(v:V)(u:Value):Prop where
 at_:PySem.W.findIn K (.ref C) f=some (some u)
 rel:RelV v u
 get:PySem.W.specialIn K u "__get__"=some none
 cp:PySem.W.copiedNames.contains f=false
structure Meth(K:PySem.W.Frag)(C:Addr)(m:Str)(f:Addr):Prop where
 at_:PySem.W.findIn K (.ref C) m=some (some (.ref f))
 fn:PySem.W.isFn K (.ref f)=true
 kp:PySem.W.keepIn K (.ref f)=true
section
variable {X:Cx} {pins:List (Addr×Obj)} {σ:St} {H:Hp} {s:Shared} {A:Around} {E:Value->Shared->Prop} {Q:Value->Shared->Prop} {c:Value} {b:Bool}
inductive TyOf (K:PySem.W.Frag) (H:Hp):V->Value->Prop where
 |non:TyOf K H .non (.type "NoneType")
 |bl (x:Bool):TyOf K H (.bl x) (.type "bool")
 |int (i:Int):TyOf K H (.int i) (.type "int")
 |str (x:Str):TyOf K H (.str x) (.type "str")
 |flt (x:UInt64):TyOf K H (.flt x) (.type "float")
 |lst {a:Addr} {xs:List V} (e:H a=some (.lst xs)):TyOf K H (.ref a) (.type "list")
 |frz {a:Addr} {o:Obj} {xs:List V} (e:H a=some (.frz o (.lst xs))):TyOf K H (.ref a) (.type "list")
 |tup {a:Addr} {xs:List V} (e:H a=some (.tup xs)):TyOf K H (.ref a) (.type "tuple")
 |dK {a:Addr} {kvs:List (Key×V)} (e:H a=some (.dK kvs)):TyOf K H (.ref a) (.type "dict")
 |dT {a:Addr} {kvs:List (List Key×V)} (e:H a=some (.dT kvs)):TyOf K H (.ref a) (.type "dict")
 |ins {a C dx:Addr} {fs:List (Str×V)} (e:H a=some (.ins C dx fs)) (cl:Cls K C) (ha:PySem.W.findIn K (.ref C) "__class__"=some (some (.builtin "object.__class__")))
   (hn:PySem.W.specialIn K (.builtin "object.__class__") "__get__"=some (some (.builtin "getset_descriptor.__get__"))) (htk:PySem.W.takesIn K (.builtin "object.__class__")=some true)
   (hm:PySem.W.mroIn K C (.type "object")=some true):TyOf K H (.ref a) (.ref C)
end
end L2
namespace L2
open PySem PySem.Spec PyProof.Rows
structure Room(k:Nat)(A:Around):Prop where
 hd:A.handled=none
 dp:A.depth+3*k+5<recursionLimit
 un:A.units+16*k+200<cLine
 gd:A.guards=some []
theorem Room.mono{j k:Nat}(r:Room k A)(h:j<=k):Room j A:=⟨r.hd,by have:=r.dp;lia,by have:=r.un;lia,r.gd⟩
theorem Room.deeper{k:Nat}(r:Room (k+1) A)(env:Env):Room k (A.deeper env) :=
 ⟨r.hd,by have:=r.dp;show A.depth+1+3*k+5<_;lia,by have:=r.un;show A.units+3+16*k+200<_;lia,r.gd⟩
theorem Room.depth{k:Nat}(r:Room k A):A.depth<recursionLimit:=by have:=r.dp;lia
theorem Room.units{k:Nat}(r:Room k A):A.units+64<cLine:=by have:=r.un;lia
theorem Room.units0{k:Nat}(r:Room k A):A.units<cLine:=by have:=r.un;lia
def tNil:TA:=λ_ H Q=>Q [] H
def zej(ta:TE)(tr:TA):TA:=λσ H Q=>ta σ H λx H1=>tr σ H1 λxs H2=>Q (x::xs) H2
section
variable {X:Cx} {e:Expr} {es:List Expr} {te:TE} {t:TA} {pos:Pos}
theorem zab:PA X [] tNil:=λ_ _ _ _ H Q I h=>Calls.spliced_nil ⟨[],H,I,.nil,h⟩
theorem ybm(ha:PE X e te)(hr:PA X es t)(hs:starEach (e::es) X.env=(false,eval e X.env)::starEach es X.env:=by rfl):PA X (e::es) (zej te t):=by
 intro pos pins s σ H Q I h;rw[hs];show wpAny _ _ (spliced ((false,eval e X.env)::backTo pos (starEach es X.env))) _ _ s;refine Calls.spliced_cons (thn (ha pins s σ H _ I h) λu s1 hq=>?_);obtain⟨x,H1,I1,r1,q1⟩:=hq;exact thn (hr pos pins s1 σ H1 _ I1 q1) λus s2 ⟨xs,H2,I2,r2,q2⟩=>⟨x::xs,H2,I2,.cons r1 r2,q2⟩
def tTup(t:TA):TE:=λσ H Q=>t σ H λxs H1=>xs.length<=sizeLine/\∀p,H1 p=none->Q (.ref p) (upd H1 p (.tup xs))
def tLst(t:TA):TE:=λσ H Q=>t σ H λxs H1=>xs.length<=sizeLine/\∀p,H1 p=none->Q (.ref p) (upd H1 p (.lst xs))
theorem yaM{x1}(h:PA X es t):PE X (.Tuple es x1 pos) (tTup t):=by
 intro pins s σ H Q I hq;refine wpAny_Tuple_spliced (thn (h pos pins s σ H _ I hq) λus s1 ⟨xs,H1,I1,r,z,q⟩=>⟨by rw[<-r.length];exact z,?_⟩);have hf:H1 s1.heap.objs.size=none:=I1.hok.fresh (Nat.le_refl _);refine⟨.ref s1.heap.objs.size,upd H1 s1.heap.objs.size (.tup xs),I1.laid (t':=s1.toks) (λb u e=>Heap.get?_push_of_some _ e) (Nat.le_refl _) ?_,rfl,q _ hf⟩;exact⟨z,us,r,⟨_,Heap.get?_push_size _ rfl,rfl,_,rfl⟩⟩
theorem zaq(h:PA X es t):PE X (.List es pos) (tLst t):=by
 intro pins s σ H Q I hq;refine wpAny_List_spliced (thn (h pos pins s σ H _ I hq) λus s1 ⟨xs,H1,I1,r,z,q⟩=>⟨by rw[<-r.length];exact z,?_⟩);have hf:H1 s1.heap.objs.size=none:=I1.hok.fresh (Nat.le_refl _);refine⟨.ref s1.heap.objs.size,upd H1 s1.heap.objs.size (.lst xs),I1.laid (t':=s1.toks) (λb u e=>Heap.get?_push_of_some _ e) (Nat.le_refl _) ?_,rfl,q _ hf⟩;exact⟨z,us,0,r,Heap.get?_push_size _ rfl⟩
end
abbrev Sp:=List V->Hp->VK->XK->Prop
abbrev CXT:=List Env->Hp->Shared->XK->Value->Shared->Prop
structure Env0(P:Program)(w:World)(K:PySem.W.Frag)(mg:Str->Option Value)(base:Heap)(A:Around)(outer:List Env)(s:Shared)(H:Hp):Prop where
 frames:A.frames=some outer
 mod:Mod K mg base
 bs:∀b o,base.get? b=some o->s.heap.get? b=some o/\H b=none
 bsz:base.objs.size<=s.heap.objs.size
 funs:s.heap.FunFrames base outer
 frf:∀b∈frs outer,H b=none
 hok:HOk P w H s.heap
 bare:AllBare s.gens
noncomputable def CE(outer:List Env)(P:Program)(w:World)(H:Hp)(s:Shared)(Q:VK)(u:Value)(s':Shared):Prop :=
 Ex2 λv H'=>s'.os=s.os/\AllBare s'.gens/\Un (frs outer) [] H H' s.heap s'.heap/\HOk P w H' s'.heap/\RelV v u/\Q v H'
noncomputable def CR(CX:CXT)(outer:List Env)(P:Program)(w:World)(H:Hp)(s:Shared)(Q:VK)(E:XK)(r:Result)(s':Shared):Prop :=
 match r with
 | .ok (.ret u)=>CE outer P w H s Q u s'
 | .ok _=>False
 | .error e=>CX outer H s E e s'
structure FnOk(P:Program)(w:World)(K:PySem.W.Frag)(mg:Str->Option Value)(base:Heap)(CX:CXT)(k:Nat)(f:Addr)(fd:FuncData)(ps:List Str)(sp:Sp):Prop where
 len:∀vs H Q E,sp vs H Q E->vs.length=ps.length
 run:∀(A:Around) (outer:List Env) (s:Shared) (H:Hp) (args:Args) (us:List Value) (vs:List V) (Q:VK) (E:XK),Room k A->Env0 P w K mg base A outer s H->BindsTo s fd args (ps.zip us)->Vals vs us->sp vs H Q E->
  codeAny (model P w) A (.call (.ref f) args) (CR CX outer P w H s Q E) s
theorem FnOk.imp{K:PySem.W.Frag}{CX:CXT}{k:Nat}(F:FnOk P w K mg base CX k f fd ps sp)
  (h:∀vs H Q E,sp' vs H Q E->sp vs H Q E):FnOk P w K mg base CX k f fd ps sp' :=
 ⟨λvs H Q E q=>F.len vs H Q E (h _ _ _ _ q),λA outer s H args us vs Q E hr he hb hv hs=>F.run A outer s H args us vs Q E hr he hb hv (h _ _ _ _ hs)⟩
section
variable {X:Cx} {pins:List (Addr×Obj)} {σ:St} {H:Hp} {s s':Shared}
theorem Inv.env0(I:Inv X pins σ H s):Env0 X.prog X.w X.K X.mg X.base X.A X.stack s H :=
 ⟨I.ok.frames,I.ok.mod,I.bs,Nat.le_trans I.ok.bsz I.sz,I.stack,I.stkFree,I.hok,I.bare⟩
theorem Inv.after(I:Inv X pins σ H s)(h:CE X.stack X.prog X.w H s Q u s'):EP X pins σ Q u s':=by
 obtain⟨v,H',os,bare,un,hok,r,q⟩:=h;obtain⟨hh,g,d,t,os'⟩:=s';obtain rfl:os'=s.os:=os;exact⟨v,H',I.call (h':=hh) (g':=g) (d':=d) (t':=t) (ch:=[]) un hok bare (λb z=>absurd z (by simp)),r,q⟩
end
def zio(sp:Sp)(dvs:List V)(E:XK)(t:TA):TE:=λσ H Q=>t σ H λvs H1=>sp (vs++dvs) H1 Q E
noncomputable def zfl(K:PySem.W.Frag)(fd:FuncData)(ps:List Str)(ds:List Value):Prop :=
 ∀(s:Shared) (us:List Value),K.In s.heap->(us++ds).length=ps.length->BindsTo s fd ⟨us,[]⟩ (ps.zip (us++ds))
theorem zfl.all{K:PySem.W.Frag}(h:∀us:List Value,us.length=ps.length->bindArgs fd ⟨us,[]⟩=pure (ps.zip us)):zfl K fd ps []:=λs us _ hl=>by
 rw[List.append_nil]at hl ⊢;exact .of_eq (h us hl)
noncomputable def zfv(CX:CXT)(X:Cx)(E:XK):Prop:=∀(pins:List (Addr×Obj)) (σ:St) (H:Hp) (s:Shared) (e:Value) (s':Shared),Inv X pins σ H s->CX X.stack H s E e s'->X.xe e s'
section
variable {X:Cx} {CX:CXT} {k:Nat} {f C:Addr} {fd:FuncData} {ps:List Str} {sp:Sp} {dvs:List V} {ds:List Value} {E:XK} {x m:Str} {p pos apos:Pos} {e o:Expr} {es:List Expr} {ta:TE} {t:TA}
theorem yh6(F:FnOk X.prog X.w X.K X.mg X.base CX k f fd ps sp)(hr:Room k X.A)(hb:zfl X.K fd ps ds)(hd:Vals dvs ds)(hx:zfv CX X E)
  (I:Inv X pins σ H s) (r:Vals vs us) (h:sp (vs++dvs) H Q E):wpAny (model X.prog X.w) X.A (call (.ref f) us) (EP X pins σ Q) X.xe s:=by
 have r2:Vals (vs++dvs) (us++ds):=r.append hd;have hl:(us++ds).length=ps.length:=by rw[<-r2.length];exact F.len _ _ _ _ h
 refine wpAny_call (codeAny_mono (F.run X.A X.stack s H ⟨us,[]⟩ (us++ds) (vs++dvs) Q E hr I.env0 (hb s us I.kIn hl) r2 h) λr s' hq=>?_);cases r with
 |error e=>exact hx pins σ H s e s' I hq
 |ok fl=>
  cases fl with
  |ret u=>exact I.after hq
  |next=>exact False.elim hq
  |brk=>exact False.elim hq
  |cont=>exact False.elim hq
theorem yhx(F:FnOk X.prog X.w X.K X.mg X.base CX k f fd ps sp)(hr:Room k X.A)(hg:Gl X x)(hm:X.mg x=some (.ref f))(hk:PySem.W.keepIn X.K (.ref f)=true)(hb:zfl X.K fd ps ds)(hd:Vals dvs ds)(hx:zfv CX X E)
  (ha:PA X (e::es) t) (hdb:(x==("__debug__":Str))=false:=by decide) (he:starEach (e::es) X.env=(false,eval e X.env)::starEach es X.env:=by rfl) (hpl:(backTo pos (starEach es X.env)).any (·.1)=false:=by rfl) :
  PE X (.Call (.Name x p) (e::es) [] pos) (zio sp dvs E t):=by
 intro pins s σ H Q I h;refine wpAny_Call_Name_kw (yfz I hg hm ?_ hdb);refine PySem.W.callWith_K (h₀:=X.base) I.ok.mod.kin hk (thn (ha pos pins s σ H _ I h) λus s1 ⟨vs,H1,I1,r,q⟩=>⟨I1.kIn,?_⟩) he hpl;exact yh6 F hr hb hd hx I1 r q
structure Mk(K:PySem.W.Frag)(C f:Addr):Prop where
 makes:PySem.W.makesIn K C=true
 init:PySem.W.findIn K (.ref C) "__init__"=some (some (.ref f))
 fn:PySem.W.isFn K (.ref f)=true
 kp:PySem.W.keepIn K (.ref C)=true
end
section
variable {X:Cx} {CX:CXT} {k:Nat} {f C:Addr} {fd:FuncData} {ps ks:List Str} {sp:Sp} {E:XK} {x m:Str} {p pos apos kpos:Pos} {e o:Expr} {es:List Expr} {kws:List Keyword} {te ta:TE} {t tk:TA} {nm:Option Str}
structure KBinds(K:PySem.W.Frag)(fd:FuncData)(ps ks:List Str)(g:List Value->List Value->List Value)(gV:List V->List V->List V):Prop where
 to:∀(s:Shared) (us ws:List Value),K.In s.heap->(g us ws).length=ps.length->BindsTo s fd ⟨us,ks.zip ws⟩ (ps.zip (g us ws))
 rel:∀ {vs:List V} {us:List Value} {zs:List V} {ws:List Value},Vals vs us->Vals zs ws->Vals (gV vs zs) (g us ws)
variable {g:List Value->List Value->List Value} {gV:List V->List V->List V}
end
structure yad(N P:List Str)(sc:Scope):Prop where
 kind:sc.kind = .function
 co:sc.isCoroutine=false
 gen:sc.isGenerator=false
 nd:N.Nodup
 pre:N.take P.length=P
 par:∀x∈P,sc.names.lookup x=some .local\/sc.names.lookup x=some .cell
 nofree:∀y∈sc.names,y.2≠.free
theorem zdP{kindOf:Str->Option NameKind}:∀ {binds:List (Str×Value)} {m:Str->Option Value},(∀v,(x,v)∉binds)->bindL kindOf binds m x=m x
 | [],_,_=>rfl
 |(n,v)::r,m,h=>by
  unfold bindL;rw[zdP λw hw=>h w (List.mem_cons_of_mem _ hw)];split
  ·have:x≠n:=by rintro rfl;exact h v List.mem_cons_self
   simp[this]
  ·rfl
theorem yd8{kindOf:Str->Option NameKind}:∀ {binds:List (Str×Value)} {m:Str->Option Value},(∀v,(x,v)∉binds)->bindC kindOf binds m x=m x
 | [],_,_=>rfl
 |(n,v)::r,m,h=>by
  unfold bindC;rw[yd8 λw hw=>h w (List.mem_cons_of_mem _ hw)];split
  ·rfl
  ·have:x≠n:=by rintro rfl;exact h v List.mem_cons_self
   simp[this]
theorem ydY{kindOf:Str->Option NameKind}:∀ {P:List Str} {vs:List Value} {i:Nat} {m:Str->Option Value},P.Nodup->P[i]?=some x->vs[i]?=some v->kindOf x=some .local->
  bindL kindOf (P.zip vs) m x=some v
 | [],_,_,_,_,h,_,_=>by simp at h
 |_::_,[],_,_,_,_,h,_=>by simp at h
 |p::P,w::vs,0,m,nd,h1,h2,hk=>by
  simp at h1 h2;subst h1;subst h2;show bindL kindOf ((p,w)::P.zip vs) m p=_;unfold bindL;rw[zdP λv hv=>(List.nodup_cons.mp nd).1 (List.of_mem_zip hv).1,if_pos hk];simp
 |p::P,w::vs,i+1,m,nd,h1,h2,hk=>by
  show bindL kindOf ((p,w)::P.zip vs) m x=_;unfold bindL;exact ydY (i:=i) (List.nodup_cons.mp nd).2 (by simpa using h1) (by simpa using h2) hk
theorem yd5{kindOf:Str->Option NameKind}{x:Str}{v:Value}:∀ {P:List Str} {vs:List Value} {i:Nat} {m:Str->Option Value},P.Nodup->P[i]?=some x->vs[i]?=some v->kindOf x≠some .local->
  bindC kindOf (P.zip vs) m x=some v
 | [],_,_,_,_,h,_,_=>by simp at h
 |_::_,[],_,_,_,_,h,_=>by simp at h
 |p::P,w::vs,0,m,nd,h1,h2,hk=>by
  simp at h1 h2;subst h1;subst h2;show bindC kindOf ((p,w)::P.zip vs) m p=_;unfold bindC;rw[yd8 λv hv=>(List.nodup_cons.mp nd).1 (List.of_mem_zip hv).1,if_neg hk];simp
 |p::P,w::vs,i+1,m,nd,h1,h2,hk=>by
  show bindC kindOf ((p,w)::P.zip vs) m x=_;unfold bindC;exact yd5 (i:=i) (List.nodup_cons.mp nd).2 (by simpa using h1) (by simpa using h2) hk
def ydR(N:List Str)(vs:List V):St:=vs.map some++List.replicate (N.length-vs.length) none
noncomputable def cxOf(CX:CXT)(P:Program)(w:World)(K:PySem.W.Frag)(mg:Str->Option Value)(base:Heap)(N:List Str)(qual:Str)(scope:Scope)(f:Addr)(cd:Value)(A:Around)(outer:List Env)(s:Shared)(H:Hp)(E:XK):Cx where
 prog:=P
 w:=w
 K:=K
 mg:=mg
 base:=base
 A:=A.deeper (envOfC qual scope s.heap.objs.size f cd)
 N:=N
 s₀:=s
 H₀:=H
 env:=envOfC qual scope s.heap.objs.size f cd
 outer:=outer
 stack:=envOfC qual scope s.heap.objs.size f cd::outer
 ex:=[]
 calm:=true
 fn:=λ_=>true
 pn:=[]
 xe:=λe s'=>wpAny (model P w) (A.deeper (envOfC qual scope s.heap.objs.size f cd)) (leaving (envOfC qual scope s.heap.objs.size f cd) e) (λ_ s''=>CX outer H s E e s'') (λe' s''=>CX outer H s E e' s'') s'
theorem zeQ{sc:Scope}{n:Nat}{x:Str}(h:sc.names.lookup x=some .cell):∃c,(cellsFrom n sc.names []).lookup x=some c:=by
 have q:=PySem.W.cellsFrom_some sc.names n [] (.inl h);exact Option.isSome_iff_exists.mp q
theorem zf0{CX:CXT}{K:PySem.W.Frag}
  (S:yad N ps scope) (hd:A.handled=none) (e0:Env0 P w K mg base A outer s H) (hl:vs.length=ps.length) (r:Vals vs us)
  (x:InCallC s s.heap.objs.size (bindL (envOfC qual scope s.heap.objs.size f cd).kindOf (ps.zip us) λ_=>none) (cellsFrom (s.heap.objs.size+1) scope.names []) (bindC (envOfC qual scope s.heap.objs.size f cd).kindOf (ps.zip us) λ_=>none) s1) :
  Inv (cxOf CX P w K mg base N qual scope f cd A outer s H E) [] (ydR N vs) H s1:=by
 have hpl:ps.length<=N.length:=by have:=congrArg List.length S.pre;rw[List.length_take]at this;lia
 obtain⟨h1,tk,rfl,hk⟩:=x.done;have noA:∀b:Addr,b∉(cxOf CX P w K mg base N qual scope f cd A outer s H E).ex:=λb z=>absurd (show b∈([]:List Addr) from z) (by simp)
 refine⟨⟨e0.mod,S.kind,rfl,rfl,Nat.le_refl _,λy z c h1 h2=>?_,λy hy=>?_,λy c _ h=>?_,λ_=>hd,Around.frames_deeper e0.frames,.inr ⟨rfl,rfl⟩,λb z=>absurd z (noA b),e0.bs,e0.bsz,λb _ _=>noA b,λb z=>absurd z (noA b),e0.funs,e0.frf⟩,
  rfl,e0.bare,Un.kept hk,⟨_,x.toInCall.ns,λi y v h1 h2 h3=>?_⟩,λy c h=>⟨_,x.cell y c h⟩,e0.hok.fresh (Nat.le_refl _),λy c h=>?_,λp hp=>absurd (show p∈([]:List (Addr×Obj)) from hp) (by simp),e0.hok.kept hk,?_⟩
 ·exact name_of_addr x.apart (PySem.mem_of_lookup h1) (PySem.mem_of_lookup h2)
 ·have hy:scope.names.lookup y=some .cell\/scope.names.lookup y=some .free:=hy;rcases hy with hy|hy
  ·exact zeQ hy
  ·exact absurd rfl (S.nofree _ (PySem.mem_of_lookup hy))
 ·exact Nat.le_of_lt (x.above y c (PySem.mem_of_lookup h))
 ·have hi:i<vs.length:=by
   unfold ydR at h2;by_cases hi:i<vs.length
   ·exact hi
   ·rw[List.getElem?_append_right (by simpa using hi)]at h2;rw[List.getElem?_replicate]at h2;split at h2 <;> cases h2
  have ha:vs[i]?=some v:=by
   unfold ydR at h2;rw[List.getElem?_append_left (by simpa using hi),List.getElem?_map]at h2;cases e:vs[i]? with
   |none=>rw[e]at h2;cases h2
   |some a=>rw[e]at h2;cases h2;rfl
  obtain⟨u,hu,rv⟩:=r.get ha;have hp:ps[i]?=some y:=by
   rw[<-S.pre,List.getElem?_take_of_lt (by lia)];exact h1
  have ndP:ps.Nodup:=by rw[<-S.pre];exact S.nd.sublist (List.take_sublist _ _)
  refine⟨u,rv,?_⟩;rcases S.par y (List.mem_of_getElem? hp) with k|k
  ·exact .inl ⟨k,ydY ndP hp hu k⟩
  ·obtain⟨c,e⟩:=zeQ (n:=s.heap.objs.size+1) k;refine .inr ⟨.inl k,c,e,?_⟩;have q:=x.cell y c e;rw[yd5 ndP hp hu (by show scope.names.lookup y≠_;rw[k];decide)]at q;exact q
 ·exact e0.hok.fresh (Nat.le_of_lt (x.above y c (PySem.mem_of_lookup h)))
 ·unfold ydR;show _=N.length;rw[List.length_append,List.length_map,List.length_replicate]
  lia
theorem ziT{CX:CXT}{P:Program}{w:World}{K:PySem.W.Frag}{mg:Str->Option Value}{base:Heap}{k:Nat}{f:Addr}{name qual:Str}{params:Arguments}{body:List Stmt}{scope:Scope}{dV kV doc pm cdv ct oc:Value}{an od:Option Addr}
  {osl:Array (Option Value)} {N ps:List Str} {sp:Sp} (lk:K.lookup f=some ⟨oc,od,.func (PySem.W.fnOf name qual params body scope dV kV doc pm an cdv ct),osl⟩) (hcd:PySem.W.codeIn K cdv qual=true) (S:yad N ps scope)
  (len:∀vs H Q E,sp vs H Q E->vs.length=ps.length)
  (hbody:∀(A:Around) (outer:List Env) (s:Shared) (H:Hp) (vs:List V) (Q:VK) (E:XK),Room k (A.deeper (envOfC qual scope s.heap.objs.size f cdv))->sp vs H Q E->
   ∃t,PSs (cxOf CX P w K mg base N qual scope f cdv A outer s H E) body t/\t { nx:=λ_ H'=>Q .non H',rt:=Q } (ydR N vs) H) :
  FnOk P w K mg base CX (k+1) f (PySem.W.fnOf name qual params body scope dV kV doc pm an cdv ct) ps sp:=by
 refine⟨len,λA outer s H args us vs Q E hr e0 hb r hsp=>?_⟩;have hl:=len _ _ _ _ hsp;have KX:K.In s.heap:=e0.mod.kin.keeps λb o e=>(e0.bs b o e).1
 have lim:s.heap.NoLimit:=e0.mod.nolimit.keeps λb o e=>(e0.bs b o e).1
 have hkind:∀y∈ps.zip us,scope.names.lookup y.1=some .local\/(scope.names.lookup y.1=some .cell/\((cellsFrom (s.heap.objs.size+1) scope.names []).lookup y.1).isSome=true):=λ⟨n,v⟩ hy=>by
  rcases S.par n (List.of_mem_zip hy).1 with q|q
  ·exact .inl q
  ·exact .inr ⟨q,PySem.W.cellsFrom_some _ _ _ (.inl q)⟩
 refine codeAny_call_function hr.depth (KX _ _ lk) rfl S.co S.gen rfl (PySem.W.codeRec_of KX hcd) (hb _ _ _ _ ?_);refine wpAny_newFunctionEnv_cells S.kind hkind λenv he s1 x=>?_
 subst he;refine⟨lim.keeps x.toInCall.keep,codeAny_func ?_⟩;obtain⟨t,ht,hq⟩:=hbody A outer s H vs Q E (hr.deeper _) hsp;have I:Inv (cxOf CX P w K mg base N qual scope f cdv A outer s H E) [] (ydR N vs) H s1:=zf0 S hr.hd e0 hl r x;refine wpAny_mono (ht [] s1 (ydR N vs) H _ I hq) (λfl s' hs=>?_) λe s' hs=>hs
 have fin:∀ {σ':St} {H':Hp} {v:V} {u:Value},Inv (cxOf CX P w K mg base N qual scope f cdv A outer s H E) [] σ' H' s'->RelV v u->Q v H'->CE outer P w H s Q u s' :=
  λ{σ' H' v u} J rv q=>⟨v,H',J.os,J.bare,J.base,J.hok,rv,q⟩
 cases fl with
 |ret u=>
  obtain⟨v,σ',H',J,rv,q⟩:=hs;exact fin J rv q
 |next=>
  obtain⟨σ',H',J,q⟩:=hs;exact fin (v:=V.non) (u:=Value.none) J rfl q
 |brk=>
  obtain⟨_,_,_,q⟩:=hs;exact False.elim q
 |cont=>
  obtain⟨_,_,_,q⟩:=hs;exact False.elim q
end L2
namespace L2
open PySem PySem.Spec PyProof.Rows
section
variable {X:Cx} {x:Str} {p pos:Pos} {e:Expr} {es:List Expr} {t:TA} {id T:String} {r:List V->Hp->VK->Prop}
def tCB(r:List V->Hp->VK->Prop)(t:TA):TE:=λσ H Q=>t σ H λvs H1=>r vs H1 Q
theorem zgG(hc:ya4 X (.builtin id) r)(hg:Gl X x)(hm:X.mg x=none)(hv:bootBuiltins x=some (.builtin id))(ha:PA X (e::es) t)(hn:x≠"__name__":=by decide)(hdb:(x==("__debug__":Str))=false:=by decide)
  (he:starEach (e::es) X.env=(false,eval e X.env)::starEach es X.env:=by rfl) (hpl:(backTo pos (starEach es X.env)).any (·.1)=false:=by rfl):PE X (.Call (.Name x p) (e::es) [] pos) (tCB r t):=by
 intro pins s σ H Q I h;refine wpAny_Call_Name_kw (zbs I hg hm hv ?_ hn hdb);exact PyProof.Rows.callWith_builtin1 (thn (ha pos pins s σ H _ I h) λus s1 ⟨vs,H1,I1,r1,q1⟩=>hc pins s1 σ H1 vs us Q I1 r1 q1) he hpl
theorem yfZ(hc:ya4 X (.type T) r)(hg:Gl X x)(hm:X.mg x=none)(hv:bootBuiltins x=some (.type T))(ha:PA X (e::es) t)(hn:x≠"__name__":=by decide)(hdb:(x==("__debug__":Str))=false:=by decide)
  (he:starEach (e::es) X.env=(false,eval e X.env)::starEach es X.env:=by rfl) (hpl:(backTo pos (starEach es X.env)).any (·.1)=false:=by rfl):PE X (.Call (.Name x p) (e::es) [] pos) (tCB r t):=by
 intro pins s σ H Q I h;refine wpAny_Call_Name_kw (zbs I hg hm hv ?_ hn hdb);exact PyProof.Rows.callWith_type1 (thn (ha pos pins s σ H _ I h) λus s1 ⟨vs,H1,I1,r1,q1⟩=>hc pins s1 σ H1 vs us Q I1 r1 q1) he hpl
end
end L2
namespace HT
open PySem PyProof.Rows
section
variable {prog:Program} {w:World} {A:Around} {E:Value->Shared->Prop} {s:Shared}
theorem cat_tup(ht:IsTup s.heap t vs.toArray)(hb:IsTup s.heap b ws.toArray)(hv:vs≠[])
  (h1:ws=[]->Q (.ref t) s) (h2:ws≠[]->Q (.ref s.heap.objs.size) { s with heap:=s.heap.push { cls:=.type "tuple",data:=.seq (vs++ws).toArray } })
  (hsz:vs.length+ws.length<=sizeLine):wpAny (model prog w) A (binaryOp .Add (.ref t) (.ref b)) Q E s:=by
 obtain⟨⟨cls,dd,data,sl⟩,ho,hc,n,hd⟩:=id ht;obtain⟨⟨cls2,dd2,data2,sl2⟩,ho2,hc2,n2,hd2⟩:=id hb;simp only at hc hd hc2 hd2;subst hc hd hc2 hd2;have e:vs.toArray++ws.toArray=(vs++ws).toArray:=by simp
 by_cases hw:ws=[]
 ·exact concat_meets ⟨_,ho,rfl⟩ ⟨_,ho2,rfl⟩ noFill_tuple_add seq_tuple_add PySem.F.slot_tuple_add PySem.F.entry_tuple_add (PySem.F.args_tuple_add_2 _ _)
   (tuple_addW1 t b vs.toArray ws.toArray n n2 dd dd2 sl sl2 (by simpa using hv) (by simp[hw])) ⟨ho,ho2,h1 hw⟩
 ·refine concat_meets ⟨_,ho,rfl⟩ ⟨_,ho2,rfl⟩ noFill_tuple_add seq_tuple_add PySem.F.slot_tuple_add PySem.F.entry_tuple_add (PySem.F.args_tuple_add_2 _ _)
   (tuple_addW2 t b vs.toArray ws.toArray n n2 dd dd2 sl sl2 (by simpa using hv) (by simpa using hw) (by rw[List.size_toArray,List.size_toArray];exact hsz)) ⟨ho,ho2,?_⟩
  rw[e];exact h2 hw
def sIx(n d:Nat):Option Int->Nat
 |none=>d
 |some v=>if v<0 then(v+(n:Int)).toNat else min v.toNat n
theorem sIx_none(n d:Nat):sIx n d none=d:=rfl
theorem sIx_nat(n d k:Nat):sIx n d (some (k:Int))=min k n:=by
 show(if (k:Int)<0 then((k:Int)+(n:Int)).toNat else min (k:Int).toNat n)=min k n;rw[if_neg (by lia),Int.toNat_natCast]
theorem zh6(n d:Nat)(hd:d<=n)(o:Option Int):sIx n d o<=n:=by
 cases o with
 |none=>exact hd
 |some v=>
  show(if v<0 then(v+(n:Int)).toNat else min v.toNat n)<=n;by_cases hv:v<0
  ·rw[if_pos hv];lia
  ·rw[if_neg hv];exact Nat.min_le_right _ _
theorem zfV(v:Int)(n d:Nat):(if v<0 then max (v+(n:Int)) 0 else min v (n:Int))=((sIx n d (some v):Nat):Int):=by
 show(if v<0 then max (v+(n:Int)) 0 else min v (n:Int))=(((if v<0 then(v+(n:Int)).toNat else min v.toNat n):Nat):Int)
 by_cases hv:v<0
 ·simp only[if_pos hv];lia
 ·simp only[if_neg hv];lia
theorem zfk(lo hi:Option Int)(n:Nat):Builtin.Slice.sliceAdjust lo hi 1 (n:Int)=(((sIx n 0 lo:Nat):Int),((sIx n n hi:Nat):Int)):=by
 have h1:¬ ((1:Int)<0):=by lia
 unfold Builtin.Slice.sliceAdjust;simp only[h1,if_false];refine Prod.ext ?_ ?_
 ·cases lo with
  |none=>rfl
  |some v=>exact zfV v n 0
 ·cases hi with
  |none=>rfl
  |some v=>exact zfV v n n
theorem zfp(i j:Nat):Builtin.Slice.slicePlaces (i:Int) (j:Int) 1=j-i:=by
 unfold Builtin.Slice.slicePlaces;have h1:(1:Int)>0:=by lia
 simp only[h1,if_true,Int.ediv_one];split <;> lia
theorem zdd{o:Option Int}{Q:Option Int->Shared->Prop}(p:IsPart v o)(h:Q o s):wpAny (model prog w) A (Builtin.Slice.slicePartIndex v) Q E s:=by
 cases p with
 |none=>exact slicePart_none h
 |int i t=>exact slicePart_int h
theorem ybr{lo hi:Option Int}{n:Nat}{Q:Int×Int×Nat->Shared->Prop}(hs:s.heap.IsSliceOf sl vl vu .none)(pl:IsPart vl lo)(pu:IsPart vu hi)
  (h:Q (((sIx n 0 lo:Nat):Int),1,sIx n n hi-sIx n 0 lo) s):wpAny (model prog w) A (Builtin.Slice.sliceApplied (.ref sl) (pure (n:Int))) Q E s:=by
 obtain⟨os,hos,hcs,hds⟩:=id hs;unfold Builtin.Slice.sliceApplied Builtin.Slice.sliceFields;refine wpAny_bind (wpAny_bind (wpAny_field hos hds (x:=vl) rfl (wpAny_bind (wpAny_field hos hds (x:=vu) rfl (wpAny_bind (wpAny_field hos hds (x:=.none) rfl (wpAny_pure ?_)))))));refine wpAny_bind (slicePart_none ?_);show wpAny _ _ (if ((1:Int)==0)=true then _ else _) _ _ s;rw[if_neg (by decide)];refine wpAny_bind (zdd pl (wpAny_bind (zdd pu (wpAny_bind (wpAny_pure ?_)))));show wpAny _ _ (match Builtin.Slice.sliceAdjust lo hi 1 (n:Int) with|(lo,hi)=>pure (lo,(1:Int),Builtin.Slice.slicePlaces lo hi 1)) _ _ s;rw[zfk lo hi n];show wpAny _ _ (pure (((sIx n 0 lo:Nat):Int),(1:Int),Builtin.Slice.slicePlaces ((sIx n 0 lo:Nat):Int) ((sIx n n hi:Nat):Int) 1)) _ _ s;rw[zfp];exact wpAny_pure h
theorem yg0(xs:Array Value)(i k:Nat):((List.range k).filterMap λ(m:Nat)=>xs[((i:Int)+(m:Int)*1).toNat]?).toArray=((xs.toList.drop i).take k).toArray:=by
 have e:(λ(m:Nat)=>xs[((i:Int)+(m:Int)*1).toNat]?)=λm=>xs[i+m]?:=by
  funext m
  have:((i:Int)+(m:Int)*1).toNat=i+m:=by lia
  rw[this]
 rw[e];have:=pick_run xs i k;rw[List.filterMap_map]at this;have e2:((λx=>xs[x]?) ∘ λx=>i+x)=λm=>xs[i+m]?:=rfl
 rw[e2]at this;rw[this]
theorem getItem_tuple_cut{lo hi:Option Int}(ht:IsTup s.heap t items)(hs:s.heap.IsSliceOf sl vl vu .none)(pl:IsPart vl lo)(pu:IsPart vu hi)
  (hw:¬ (sIx items.size 0 lo=0/\sIx items.size items.size hi=items.size))
  (h:Q (.ref s.heap.objs.size) { s with heap:=s.heap.push { cls:=.type "tuple",data:=.seq ((items.toList.drop (sIx items.size 0 lo)).take (sIx items.size items.size hi-sIx items.size 0 lo)).toArray } })
  (hsz:items.size<=sizeLine):wpAny (model prog w) A (getItem (.ref t) (.ref sl)) Q E s:=by
 have htake:sizeOk (.seq ((items.toList.drop (sIx items.size 0 lo)).take (sIx items.size items.size hi-sIx items.size 0 lo)).toArray):=by
  show((items.toList.drop (sIx items.size 0 lo)).take (sIx items.size items.size hi-sIx items.size 0 lo)).toArray.size<=sizeLine;rw[List.size_toArray,List.length_take,List.length_drop,Array.length_toList]
  lia
 have hj:sIx items.size items.size hi<=items.size:=zh6 _ _ (Nat.le_refl _) hi;obtain⟨os,hos,hcs,hds⟩:=id hs;have hTs:s.TypeIs (.ref sl) "slice":=⟨os,hos,hcs⟩
 unfold getItem
 try with_reducible refine wpAny_holding ?_
 first|refine wpAny_bind (wpAny_pure ?_)|skip
 refine wpAny_bind (wpAny_sequenceKey ht.typeIs (by decide) ?_);refine wpAny_bind (wpAny_callSpecial?_slot (name:=Str.ofString "__getitem__") ht.typeIs PyProof.Rows.slot_tuple_getitem
  (wpAny_call_entry PyProof.Rows.slot_tuple_getitem ht.typeIs entry_tuple_getitem ?_ (args_tuple_getitem _ _)))
 show wpAny _ _ (Builtin.Tuple.tupleItemsOf (.ref t) >>= _) _ _ s;refine wpAny_bind (tupleItemsOf_ ht ?_);refine wpAny_bind (wpAny_typeOf hTs ?_);rw[if_pos (by decide)];refine wpAny_bind (ybr hs pl pu ?_);have hno:¬ ((((sIx items.size 0 lo:Nat):Int)==0&&(1:Int)==1&&(sIx items.size items.size hi-sIx items.size 0 lo)==items.size)=true):=by
  intro q;rw[Bool.and_eq_true,Bool.and_eq_true]at q;have q1:((sIx items.size 0 lo:Nat):Int)=0:=eq_of_beq q.1.1;have q2:sIx items.size items.size hi-sIx items.size 0 lo=items.size:=eq_of_beq q.2;exact hw ⟨by lia,by lia⟩
 show wpAny _ _ (if (((sIx items.size 0 lo:Nat):Int)==0&&(1:Int)==1&&(sIx items.size items.size hi-sIx items.size 0 lo)==items.size)=true then _ else _) _ _ s;rw[if_neg hno,yg0]
 first
  |exact wpAny_bind (m:=Builtin.Tuple.tupleExact _) (wpAny_newObj_type (wpAny_pure ⟨_,rfl,wpAny_pure h⟩) htake)
  |exact wpAny_bind (m:=Builtin.Tuple.tupleExact _) (wpAny_newObj_type (wpAny_bind (wpAny_pure (wpAny_pure ⟨_,rfl,wpAny_pure h⟩))) htake)
  |exact wpAny_bind (wpAny_bind (m:=Builtin.Tuple.tupleExact _) (wpAny_newObj_type (wpAny_pure (wpAny_pure ⟨_,rfl,wpAny_pure h⟩)) htake))
  |exact wpAny_bind (wpAny_bind (m:=Builtin.Tuple.tupleExact _) (wpAny_newObj_type (wpAny_pure ⟨_,rfl,wpAny_pure h⟩) htake))
end
end HT
namespace L2
open PySem PySem.Spec PyProof.Rows
abbrev TO:=St->Hp->(Option Int->Hp->Prop)->Prop
noncomputable def PO(X:Cx)(e:Option Expr)(t:TO):Prop :=
 ∀(pins:List (Addr×Obj)) (s:Shared) (σ:St) (H:Hp) (Q:Option Int->Hp->Prop),Inv X pins σ H s->t σ H Q->
  wpAny (model X.prog X.w) X.A (evalPart e X.env) (λu s'=>Ex2 λo H'=>Inv X pins σ H' s'/\IsPart u o/\Q o H') X.xe s
def zhq:TO:=λ_ H Q=>Q none H
def ziE(t:TE):TO:=λσ H Q=>t σ H λx H1=>∃i,x = .int i/\Q (some i) H1
section
variable {X:Cx} {e:Expr} {te:TE} {lo hi:Option Expr} {tl th:TO} {pos p2:Pos}
theorem zeo:PO X none zhq:=by
 intro pins s σ H Q I h;rw[evalPart_none];exact wpAny_pure ⟨none,H,I,.none,h⟩
theorem zcO(h:PE X e te):PO X (some e) (ziE te):=by
 intro pins s σ H Q I hw;rw[evalPart_some];refine thn (h pins s σ H _ I hw) λu s1 hq=>?_
 obtain⟨x,H1,I1,r1,q1⟩:=hq;obtain⟨i,rfl,q⟩:=q1;obtain⟨t,rfl⟩:=r1;exact⟨some i,H1,I1,.int i t,q⟩
noncomputable def SlR(X:Cx)(r:V->Option Int->Option Int->Hp->VK->Prop):Prop :=
 ∀(pins:List (Addr×Obj)) (s:Shared) (σ:St) (H:Hp) (x:V) (v vl vu:Value) (lo hi:Option Int) (sl:Addr) (Q:VK),Inv X pins σ H s->RelV x v->s.heap.IsSliceOf sl vl vu .none->IsPart vl lo->IsPart vu hi->r x lo hi H Q->
  Ex2 λT id=>typeLookup (.type T) "__getitem__"=pure (some (.builtin id))/\s.TypeIs v T/\wpAny (model X.prog X.w) X.A (getItem v (.ref sl)) (EP X pins σ Q) X.xe s
theorem SlR.or{r r':V->Option Int->Option Int->Hp->VK->Prop}(h:SlR X r)(h':SlR X r'):SlR X (λx lo hi H Q=>r x lo hi H Q\/r' x lo hi H Q):=by
 intro pins s σ H x v vl vu lo hi sl Q I rx hs pl pu q;rcases q with q|q
 ·exact h pins s σ H x v vl vu lo hi sl Q I rx hs pl pu q
 ·exact h' pins s σ H x v vl vu lo hi sl Q I rx hs pl pu q
noncomputable def tSl(r:V->Option Int->Option Int->Hp->VK->Prop)(te:TE)(tl th:TO):TE:=λσ H Q=>te σ H λx H1=>tl σ H1 λl H2=>th σ H2 λu H3=>r x l u H3 Q
theorem zcw{r:V->Option Int->Option Int->Hp->VK->Prop}(hr:SlR X r)(he:PE X e te)(hl:PO X lo tl)(hu:PO X hi th):PE X (.Subscript e (.Slice lo hi none p2) pos) (tSl r te tl th):=by
 intro pins s σ H Q I h;refine Subscript_ (thn (he pins s σ H _ I h) λv s1 hq=>?_);obtain⟨x,H1,I1,r1,q1⟩:=hq;refine wpAny_Slice (thn (hl pins s1 σ H1 _ I1 q1) λvl s2 ⟨l,H2,I2,pl,q2⟩=>thn (hu pins s2 σ H2 _ I2 q2) λvu s3 hq=>?_);obtain⟨u,H3,I3,pu,q3⟩:=hq;rw[evalPart_none];refine wpAny_pure ?_;have I4:Inv X pins σ H3 { s3 with heap:=s3.heap.push { cls:=.type "slice",data:=.fields #[vl,vu,.none] } }:=I3.kept (t':=s3.toks) λb ob q=>Heap.get?_push_of_some _ q
 obtain⟨T,id,hT,ht,hg⟩:=hr pins { s3 with heap:=s3.heap.push { cls:=.type "slice",data:=.fields #[vl,vu,.none] } } σ H3 x v vl vu l u s3.heap.objs.size Q I4 r1 (Heap.IsSliceOf.new ..) pl pu q3;show wpAny (model X.prog X.w) X.A (subscriptTail e (.Slice lo hi none p2) v (.ref s3.heap.objs.size)) (EP X pins σ Q) X.xe { s3 with heap:=s3.heap.push { cls:=.type "slice",data:=.fields #[vl,vu,.none] } };exact tail_any (ops:=[.ref s3.heap.objs.size,v]) ht hT hg (by with_unfolding_all rfl)
noncomputable def cutV(xs:List V)(lo hi:Option Int):List V:=(xs.drop (HT.sIx xs.length 0 lo)).take (HT.sIx xs.length xs.length hi-HT.sIx xs.length 0 lo)
theorem ycX(xs:List V)(lo hi:Option Int):(cutV xs lo hi).length<=xs.length:=by
 unfold cutV;rw[List.length_take,List.length_drop]
 lia
noncomputable def rSlT(K:PySem.W.Frag):V->Option Int->Option Int->Hp->VK->Prop:=λx lo hi H Q=>Ex2 λa xs=>x = .ref a/\SqT K H a xs/\
 ¬ (HT.sIx xs.length 0 lo=0/\HT.sIx xs.length xs.length hi=xs.length)/\∀p,H p=none->Q (.ref p) (upd H p (.tup (cutV xs lo hi)))
theorem yii:SlR X (rSlT X.K):=by
 intro pins s σ H x v vl vu lo hi sl Q I rx hs pl pu h;obtain⟨a,xs,rfl,hx,hw,q⟩:=h;cases rx;obtain⟨its,r,ht,hz⟩:=I.tuple hx;have hlen:its.toArray.size=xs.length:=by rw[List.size_toArray];exact r.length.symm
 refine⟨"tuple",_,PyProof.Rows.slot_tuple_getitem.lookup,ht.typeIs,?_⟩;refine HT.getItem_tuple_cut ht hs pl pu (by rw[hlen];exact hw) ?_ (by rw[hlen];exact hz);rw[hlen];refine⟨.ref s.heap.objs.size,_,I.laid (t':=s.toks) (o:=.tup (cutV xs lo hi)) (λb ob q=>Heap.get?_push_of_some _ q) (Nat.le_refl _) ?_,rfl,q _ (I.hok.fresh (Nat.le_refl _))⟩;exact⟨Nat.le_trans (ycX xs lo hi) hz,_,(r.drop (HT.sIx xs.length 0 lo)).take (HT.sIx xs.length xs.length hi-HT.sIx xs.length 0 lo),IsTup.new _ _⟩
noncomputable def ziR(K:PySem.W.Frag):R2:=λx y H Q=>Ex4 λa b xs ys=>x = .ref a/\y = .ref b/\SqT K H a xs/\SqT K H b ys/\xs≠[]/\xs.length+ys.length<=sizeLine/\
 (ys=[]->Q (.ref a) H)/\(ys≠[]->∀p,H p=none->Q (.ref p) (upd H p (.tup (xs++ys))))
theorem Vals.nil_iff(r:Vals xs us):us=[]↔xs=[]:=by
 cases r with
 |nil=>simp
 |cons _ _=>simp
theorem zhu:OpR X (binaryOp .Add) (ziR X.K):=by
 intro pins s σ H x y v u Q I rx ry h;obtain⟨a,b,xs,ys,rfl,rfl,ha,hb,hx,hz,q1,q2⟩:=h;cases rx;cases ry;obtain⟨its,r1,p1,_⟩:=I.tuple ha;obtain⟨its2,r2,p2,_⟩:=I.tuple hb;refine HT.cat_tup p1 p2 (λz=>hx (r1.nil_iff.mp z)) (λz=>⟨.ref a,H,I,rfl,q1 (r2.nil_iff.mp z)⟩) (λz=>?_) (by rw[<-r1.length,<-r2.length];exact hz);refine⟨.ref s.heap.objs.size,_,I.laid (t':=s.toks) (o:=.tup (xs++ys)) (λb ob q=>Heap.get?_push_of_some _ q) (Nat.le_refl _) ?_,rfl,q2 (λw=>z (r2.nil_iff.mpr w)) _ (I.hok.fresh (Nat.le_refl _))⟩;exact⟨by rw[List.length_append];exact hz,_,r1.append r2,IsTup.new _ _⟩
end
end L2
namespace L2
open PySem PySem.Spec PyProof.Rows
noncomputable def ixN(n:Nat)(i:Int):Option Nat:=if 0<=i then(if i<n then some i.toNat else none) else if -(n:Int)<=i then some (i+n).toNat else none
def atI{α:Type}(xs:List α)(i:Int):Option α:=(ixN xs.length i).bind λj=>xs[j]?
theorem yet{n:Nat}{i:Int}{j:Nat}(h:ixN n i=some j):seqIndex? i n=some j/\j<n/\-(n:Int)<=i/\i<n:=by
 unfold ixN at h;by_cases h0:0<=i
 ·rw[if_pos h0]at h;by_cases h1:i<n
  ·rw[if_pos h1]at h;have e:i.toNat=j:=Option.some.inj h;exact⟨by rw[seqIndex_of h0 h1,e],by lia,by lia,h1⟩
  ·rw[if_neg h1]at h;cases h
 ·rw[if_neg h0]at h;by_cases h1 : -(n:Int)<=i
  ·rw[if_pos h1]at h;have e:(i+n).toNat=j:=Option.some.inj h;exact⟨by rw[seqIndex_neg (by lia) h1,e],by lia,h1,by lia⟩
  ·rw[if_neg h1]at h;cases h
theorem yeG{α:Type}{xs:List α}{i:Int}{v:α}(h:atI xs i=some v):∃j,seqIndex? i xs.length=some j/\xs[j]?=some v/\j<xs.length/\-(xs.length:Int)<=i/\i<xs.length:=by
 unfold atI at h;cases e:ixN xs.length i with
 |none=>rw[e]at h;cases h
 |some j=>
  rw[e]at h;obtain⟨h1,h2,h3,h4⟩:=yet e;exact⟨j,h1,h,h2,h3,h4⟩
theorem zaz{α:Type}{xs:List α}{j:Nat}{v:α}(h:xs[j]?=some v):atI xs (j:Int)=some v:=by
 have hj:j<xs.length:=(List.getElem?_eq_some_iff.mp h).1;have e:ixN xs.length (j:Int)=some j:=by
  unfold ixN;rw[if_pos (by lia),if_pos (by lia)];simp
 unfold atI;rw[e];exact h
def yhI(b:Expr):Prop:=∀o i,subscripted b false o i=operate [o,i] (getItem o i)
noncomputable def IxR(X:Cx)(r:R2):Prop :=
 ∀(value slice:Expr) (pins:List (Addr×Obj)) (s:Shared) (σ:St) (H:Hp) (x y:V) (v u:Value) (Q:VK),Inv X pins σ H s->RelV x v->RelV y u->r x y H Q->
  subscripted slice false v u=operate [v,u] (getItem v u)->wpAny (model X.prog X.w) X.A (subscriptTail value slice v u) (EP X pins σ Q) X.xe s
noncomputable def MtR(X:Cx)(id:String)(r:V->List V->Hp->VK->Prop):Prop :=
 ∀(pins:List (Addr×Obj)) (s:Shared) (σ:St) (H:Hp) (x:V) (xs:List V) (v:Value) (us:List Value) (Q:VK),Inv X pins σ H s->RelV x v->Vals xs us->r x xs H Q->
  wpAny (model X.prog X.w) X.A (call (.builtin id) (v::us)) (EP X pins σ Q) X.xe s
section
variable {X:Cx} {a b:Expr} {ta tb:TE} {pos:Pos}
theorem ziF{r:R2}(hr:IxR X r)(ha:PE X a ta)(hb:PE X b tb)(hs:yhI b):PE X (.Subscript a b pos) (tOp r ta tb):=by
 intro pins s σ H Q I h;exact Subscript_ (binT ha hb I h λv u s2 x y H2 I2 rx ry q=>hr a b pins s2 σ H2 x y v u Q I2 rx ry q (hs _ _))
inductive GIxL (K:PySem.W.Frag) (x y:V) (H:Hp) (Q:VK):Prop
 |mk (p:Addr) (xs:List V) (i:Int) (v:V) (a:x = .ref p) (b:y = .int i) (c:SqL K H p xs) (d:atI xs i=some v) (q:Q v H):GIxL K x y H Q
def rIxL(K:PySem.W.Frag):R2:=λx y H Q=>GIxL K x y H Q
inductive GIxT (K:PySem.W.Frag) (x y:V) (H:Hp) (Q:VK):Prop
 |mk (p:Addr) (xs:List V) (i:Int) (v:V) (a:x = .ref p) (b:y = .int i) (c:SqT K H p xs) (d:atI xs i=some v) (q:Q v H):GIxT K x y H Q
def rIxT(K:PySem.W.Frag):R2:=λx y H Q=>GIxT K x y H Q
theorem yah:IxR X (rIxL X.K):=by
 intro value slice pins s σ H x y v u Q I rx ry h hs;obtain⟨p,xs,i,z,rfl,rfl,hq,he,q⟩:=h;cases rx;obtain⟨t,rfl⟩:=ry;obtain⟨its,r,pl,hz⟩:=I.list hq;obtain⟨j,h1,h2,h3,h4,h5⟩:=yeG he;obtain⟨w,ew,rw'⟩:=r.get h2;have hl:=r.length;have hn:=zdR;have fin:EP X pins σ Q w s:=⟨z,H,I,rw',q⟩
 by_cases h0:0<=i
 ·have hj:i.toNat=j:=by
   rw[seqIndex_of h0 h5]at h1;exact Option.some.inj h1
  exact item_listR pl.isList h0 (by lia) (by rw[hj];simpa using ew) fin hs
 ·have hj:(i+(its.toArray.size:Int)).toNat=j:=by
   rw[seqIndex_neg (by lia) h4]at h1;rw[List.size_toArray,<-hl];exact Option.some.inj h1
  exact subscriptTail_builtinR (x:=w) pl.isList.typeIs slot_list_getitem.lookup
   (wpAny_getItem_list_neg (Q:=λr s'=>r=w/\EP X pins σ Q r s') pl.isList (by lia) (by rw[List.size_toArray] <;> lia) (by lia) (by rw[hj];simpa using ew) ⟨rfl,fin⟩) hs
theorem zam:IxR X (rIxT X.K):=by
 intro value slice pins s σ H x y v u Q I rx ry h hs;obtain⟨p,xs,i,z,rfl,rfl,hq,he,q⟩:=h;cases rx;obtain⟨t,rfl⟩:=ry;obtain⟨its,r,pl,hz⟩:=I.tuple hq;obtain⟨j,h1,h2,h3,h4,h5⟩:=yeG he;obtain⟨w,ew,rw'⟩:=r.get h2;have hl:=r.length;have hn:=zdR;have fin:EP X pins σ Q w s:=⟨z,H,I,rw',q⟩
 exact subscriptTail_builtinR (x:=w) pl.typeIs slot_tuple_getitem.lookup
  (getItem_tuple (j:=j) (Q:=λr s'=>r=w/\EP X pins σ Q r s') pl (by lia) (by lia) (by rw[List.size_toArray,<-hl];exact h1) (by simpa using ew) ⟨rfl,fin⟩) hs
theorem zfm(its:List Value)(n j:Nat)(u:Value):Obj.mapSeq (·.setIfInBounds j u) { cls:=.type "list",data:=.seq its.toArray n }={ cls:=.type "list",data:=.seq (its.set j u).toArray n }:=by
 simp[Obj.mapSeq]
theorem Inv.lst(I:Inv X pins σ H s)(h:H p=some (.lst xs)) :
  Ex2 λ(its:List Value) (n:Nat)=>Vals xs its/\s.heap.get? p=some { cls:=.type "list",data:=.seq its.toArray n }/\xs.length<=sizeLine:=by
 obtain⟨z,its,n,r,e⟩:=I.hok p _ h;exact⟨its,n,r,e,z⟩
theorem Inv.lstUpd{pins:List (Addr×Obj)}{σ:St}{H:Hp}{s:Shared}{p:Addr}{xs ys:List V}{its its':List Value}{n n':Nat}{f:Obj->Obj}(I:Inv X pins σ H s)(h:H p=some (.lst xs))
  (ho:s.heap.get? p=some { cls:=.type "list",data:=.seq its.toArray n }) (hf:f { cls:=.type "list",data:=.seq its.toArray n }={ cls:=.type "list",data:=.seq its'.toArray n' }) (r:Vals ys its') (hz:ys.length<=sizeLine) (t:Nat) :
  Inv X pins σ (upd H p (.lst ys)) { s with heap:=s.heap.update p f,toks:=t }:=by
 have e:(s.heap.update p f).get? p=some { cls:=.type "list",data:=.seq its'.toArray n' }:=by
  rw[Heap.get?_update_self f ho (by rw[hf] <;> rfl),hf]
 refine I.write (x:=p) (e:=p) (by rw[h];trivial) (.inl rfl) (λb u hb q=>(Heap.get?_update_other _ _ (Ne.symm hb)).trans q) ⟨_,e⟩ ?_;exact⟨hz,its',n',r,e⟩
noncomputable def ziC:V->V->V->Hp->(Hp->Prop)->Prop:=λo i v H Q=>Ex4 λp xs k j=>o = .ref p/\i = .int k/\H p=some (.lst xs)/\ixN xs.length k=some j/\Q (upd H p (.lst (xs.set j v)))
theorem zaP:PSet X ziC:=by
 intro pins s σ H o i v ov iv u Q I ro ri rv h;obtain⟨p,xs,k,j,rfl,rfl,hp,hj,q⟩:=h;cases ro;obtain⟨t,rfl⟩:=ri;obtain⟨its,n,r,ho,hz⟩:=I.lst hp;obtain⟨h1,h2,h3,h4⟩:=yet hj;have hl:=r.length;have hn:=zdR;have I':Inv X pins σ (upd H p (.lst (xs.set j v))) { s with heap:=s.heap.update p (Obj.mapSeq (·.setIfInBounds j u)) } :=
  I.lstUpd hp ho (zfm its n j u) (r.set rv j) (by rw[List.length_set];exact hz) s.toks
 by_cases h0:0<=k
 ·have hk:k.toNat=j:=by
   rw[seqIndex_of h0 h4]at h1;exact Option.some.inj h1
  exact PySem.W.ki_setAt ho h0 (by lia) (by rw[List.size_toArray,<-hl];exact h4) (by rw[hk];exact⟨_,I',q⟩)
 ·have hk:(k+(its.toArray.size:Int)).toNat=j:=by
   rw[seqIndex_neg (by lia) h3]at h1;rw[List.size_toArray,<-hl];exact Option.some.inj h1
  exact PySem.W.ki_setBack ho (by lia) (by rw[List.size_toArray,<-hl];exact h3) (by lia) (by rw[hk];exact⟨_,I',q⟩)
theorem yd2(lo hi:Option Int)(n:Nat):(sliceBounds lo hi none n).1=((HT.sIx n 0 lo:Nat):Int)/\(sliceBounds lo hi none n).2.1=((HT.sIx n n hi:Nat):Int)/\(sliceBounds lo hi none n).2.2=1:=by
 refine⟨?_,?_,rfl⟩
 ·cases lo with
  |none=>simp[sliceBounds,HT.sIx]
  |some i=>
   simp only[sliceBounds,HT.sIx,Option.getD_none,show(1:Int)>0 by decide,if_true];by_cases h:i<0
   ·simp only[h,if_true] <;> lia
   ·simp only[h,if_false] <;> lia
 ·cases hi with
  |none=>simp[sliceBounds,HT.sIx]
  |some i=>
   simp only[sliceBounds,HT.sIx,Option.getD_none,show(1:Int)>0 by decide,if_true];by_cases h:i<0
   ·simp only[h,if_true] <;> lia
   ·simp only[h,if_false] <;> lia
theorem ydx(its:List Value)(lo hi:Option Int):slicePick its.toArray lo hi none=((its.drop (HT.sIx its.length 0 lo)).take (HT.sIx its.length its.length hi-HT.sIx its.length 0 lo)).toArray:=by
 obtain⟨h1,h2,h3⟩:=yd2 lo hi its.toArray.size;unfold slicePick;rw[h1,h2,h3];simp only[sliceRange_one,pick_run,List.size_toArray] <;> rfl
noncomputable def rSlL(K:PySem.W.Frag):V->Option Int->Option Int->Hp->VK->Prop:=λx lo hi H Q=>Ex2 λa xs=>x = .ref a/\SqL K H a xs/\∀p,H p=none->Q (.ref p) (upd H p (.lst (cutV xs lo hi)))
theorem zei:SlR X (rSlL X.K):=by
 intro pins s σ H x v vl vu lo hi sl Q I rx hs pl pu h;obtain⟨a,xs,rfl,hx,q⟩:=h;cases rx;obtain⟨its,r,ht,hz⟩:=I.list hx;have hlen:=r.length;refine⟨"list",_,slot_list_getitem.lookup,ht.isList.typeIs,?_⟩;refine wpAny_getItem_list_slice ht.isList hs pl pu .none (by simp) ?_ (by rw[List.size_toArray] <;> lia);rw[ydx,<-hlen];refine⟨.ref s.heap.objs.size,_,I.laid (t':=s.toks) (o:=.lst (cutV xs lo hi)) (λb ob q=>Heap.get?_push_of_some _ q) (Nat.le_refl _) ?_,rfl,q _ (I.hok.fresh (Nat.le_refl _))⟩;exact⟨Nat.le_trans (ycX xs lo hi) hz,_,0,(r.drop (HT.sIx xs.length 0 lo)).take (HT.sIx xs.length xs.length hi-HT.sIx xs.length 0 lo),Heap.get?_push_size _ rfl⟩
def zic:V->Bool
 | .non=>true
 | .bl _=>true
 | .int _=>true
 | .str _=>true
 |_=>false
noncomputable def eqV:V->V->Bool
 | .non,.non=>true
 | .bl a,.bl b=>a==b
 | .bl a,.int b=>(if a then 1 else 0)==b
 | .int a,.bl b=>a==(if b then 1 else 0)
 | .int a,.int b=>a==b
 | .str a,.str b=>a==b
 |_,_=>false
def inV(x:V)(xs:List V):Bool:=xs.any λy=>eqV y x
inductive GIn (K:PySem.W.Frag) (neg:Bool) (x y:V) (H:Hp) (Q:VK):Prop
 |mk (p:Addr) (xs:List V) (a:y = .ref p) (b:SqL K H p xs\/SqT K H p xs) (c:zic x=true) (d:xs.all zic=true) (q:Q (.bl (if neg then !inV x xs else inV x xs)) H):GIn K neg x y H Q
inductive GLen (K:PySem.W.Frag) (xs:List V) (H:Hp) (Q:VK):Prop
 |mk (p:Addr) (ys:List V) (e:xs=[.ref p]) (h:SqL K H p ys\/SqT K H p ys) (q:Q (.int ys.length) H):GLen K xs H Q
theorem yae:ya4 X (.builtin "len") (λxs H Q=>GLen X.K xs H Q):=by
 intro pins s σ H xs us Q I r h;obtain⟨p,ys,rfl,hq,q⟩:=h;obtain⟨u,rfl,rx⟩:=zcg r;cases rx;have hn:=zdR;rcases hq with hq|hq
 ·obtain⟨its,r',pl,hz⟩:=I.list hq;have hlen:=r'.length;exact Calls.call_len_list pl.isList (by simp only[List.size_toArray] <;> lia) ⟨.int ys.length,H,I.tok _,⟨s.toks+1,by rw[List.size_toArray,hlen]⟩,q⟩
 ·obtain⟨its,r',pl,hz⟩:=I.tuple hq;have hlen:=r'.length;exact len_tuple pl (by simp only[List.size_toArray] <;> lia) ⟨.int ys.length,H,I.tok _,⟨s.toks+1,by rw[List.size_toArray,hlen]⟩,q⟩
theorem zcm:ya4 X (.type "list") (λxs H Q=>Ex2 λp ys=>xs=[.ref p]/\(SqL X.K H p ys\/SqT X.K H p ys)/\∀l,H l=none->Q (.ref l) (upd H l (.lst ys))):=by
 intro pins s σ H xs us Q I r h;obtain⟨p,ys,rfl,hq,q⟩:=h;obtain⟨u,rfl,rx⟩:=zcg r;cases rx;have fin:∀(its:List Value),Vals ys its->ys.length<=sizeLine->∀(h':Heap) (c':Nat),(∀b o',s.heap.get? b=some o'->h'.get? b=some o')->
   h'.get? s.heap.objs.size=some { cls:=.type "list",dict:=none,data:=.seq its.toArray c',slots:=#[] }->EP X pins σ Q (.ref s.heap.objs.size) { s with heap:=h' }:=λits r' hz h' c' kp e=>
  ⟨.ref s.heap.objs.size,_,I.laid (t':=s.toks) kp (Nat.le_refl _) (show za5 X.prog X.w _ h' _ (.lst ys) from⟨hz,its,c',r',e⟩),rfl,q _ (I.hok.fresh (Nat.le_refl _))⟩
 rcases hq with hq|hq
 ·obtain⟨its,r',pl,hz⟩:=I.list hq;have hlen:=r'.length;obtain⟨o,ho,hc,n,hd⟩:=pl.isList;exact call_list_seq p (.inl rfl) ho hc hd (λh' c' kp e=>fin its r' hz h' c' kp e) (by simp only[List.size_toArray] <;> lia)
 ·obtain⟨its,r',pl,hz⟩:=I.tuple hq;have hlen:=r'.length;obtain⟨o,ho,hc,n,hd⟩:=pl;exact call_list_seq p (.inr rfl) ho hc hd (λh' c' kp e=>fin its r' hz h' c' kp e) (by simp only[List.size_toArray] <;> lia)
theorem yak:ya4 X (.type "tuple") (λxs H Q=>Ex2 λp ys=>xs=[.ref p]/\((SqL X.K H p ys/\∀l,H l=none->Q (.ref l) (upd H l (.tup ys)))\/(SqT X.K H p ys/\Q (.ref p) H))):=by
 intro pins s σ H xs us Q I r h;obtain⟨p,ys,rfl,h⟩:=h;obtain⟨u,rfl,rx⟩:=zcg r;cases rx;rcases h with⟨hq,q⟩ |⟨hq,q⟩
 ·obtain⟨its,r',pl,hz⟩:=I.list hq;have hlen:=r'.length;refine call_tuple_list pl.isList (λh' kp=>?_) (by simp only[List.size_toArray] <;> lia);have I1:Inv X pins σ H { s with heap:=h' }:=I.kept (t':=s.toks) kp;have I2:Inv X pins σ (upd H h'.objs.size (.tup ys)) { s with heap:=h'.push { cls:=.type "tuple",data:=.seq its.toArray } } :=
   I1.laid (t':=s.toks) (λb o e=>Heap.get?_push_of_some _ e) (Nat.le_refl _) (show za5 X.prog X.w _ _ _ (.tup ys) from⟨hz,its,r',IsTup.new _ _⟩)
  exact⟨.ref h'.objs.size,_,I2,rfl,q _ (I1.hok.fresh (Nat.le_refl _))⟩
 ·obtain⟨its,r',pl,hz⟩:=I.tuple hq;exact call_tuple_same pl ⟨.ref p,H,I,rfl,q⟩
noncomputable def tyV(K:PySem.W.Frag)(T:String)(x:V)(H:Hp):Prop:=match x with
 | .str _=>T = "str"
 | .int _=>T = "int"
 | .ref p=>(T = "list"/\∃xs,SqL K H p xs)\/(T = "tuple"/\∃o,K.lookup p=some o/\o.cls = .type "tuple"/\o.dict=none)\/
   (T = "dict"/\((∃kvs,H p=some (.dK kvs))\/∃kvs,H p=some (.dT kvs)))\/(T = "set"/\Ex2 λS n=>H p=some (.set S n))
 |_=>False
theorem zie{T:String}(I:Inv X pins σ H s)(r:RelV x v)(ty:tyV X.K T x H) :
  s.TypeIs v T/\∀a,v = .ref a->∃ob,s.heap.get? a=some ob/\ob.dict=none:=by
 cases x with
 |str z=>
  obtain⟨t,rfl⟩:=r;cases (show T = "str" from ty);exact⟨typeIs_str s z t,λ_ e=>nomatch e⟩
 |int i=>
  obtain⟨t,rfl⟩:=r;cases (show T = "int" from ty);exact⟨typeIs_int s i t,λ_ e=>nomatch e⟩
 |ref p=>
  cases r;rcases ty with⟨rfl,xs,hq⟩ |⟨rfl,o,hk,hc,hd⟩ |⟨rfl,hk⟩ |⟨rfl,S,n,hk⟩
  ·obtain⟨its,_,pl,_⟩:=I.list hq;refine⟨pl.isList.typeIs,λa e=>?_⟩;cases e;obtain⟨o,n,e,c,hd,_⟩:=pl;exact⟨o,e,hd⟩
  ·refine⟨⟨o,I.kIn p o hk,hc⟩,λa e=>?_⟩;cases e;exact⟨o,I.kIn _ o hk,hd⟩
  ·have z:∃o,s.heap.get? p=some o/\o.ExactDict:=by
    rcases hk with⟨kvs,hk⟩ |⟨kvs,hk⟩
    ·obtain⟨_,_,_,_,o,_,_,e,ex,_⟩:=I.hok p _ hk;exact⟨o,e,ex⟩
    ·obtain⟨_,_,_,_,o,_,_,e,ex,_⟩:=I.hok p _ hk;exact⟨o,e,ex⟩
   obtain⟨o,e,ex⟩:=z;refine⟨⟨o,e,ex.1⟩,λa e2=>?_⟩;cases e2;exact⟨o,e,ex.2.1⟩
  ·obtain⟨o,_,_,_,e,ex,_⟩:=I.hok p _ hk;refine⟨⟨o,e,ex.1⟩,λa e2=>?_⟩;cases e2;exact⟨o,e,ex.2.1⟩
 |_=>exact False.elim ty
noncomputable def tBM(K:PySem.W.Frag)(T:String)(r:V->List V->Hp->VK->Prop)(to:TE)(t:TA):TE:=λσ H Q=>to σ H λx H1=>tyV K T x H1/\t σ H1 λxs H2=>r x xs H2 Q
variable {o e:Expr} {es:List Expr} {to:TE} {t:TA} {name:Str} {apos cpos:Pos} {T id:String} {r:V->List V->Hp->VK->Prop}
theorem yfp(pa:PlainAttrs T)(slot:Slot T name id)(hty:typeOf (.builtin id)=pure (.type "method_descriptor"))(hm:MtR X id r)(ho:PE X o to)(ha:PA X (e::es) t)
  (hbase:attributeBase o name X.env (eval o X.env)=eval o X.env:=by rfl)
  (hfew:((backTo cpos (starEach (e::es) X.env)).all (λx=>!x.1)&&(backToKw cpos (keywordEach [] X.env)).all (λx=>x.1.isSome)
   && decide ((e::es).length+([]:List Keyword).length+(if ([]:List Keyword).isEmpty then 0 else 1)<30))=true:=by rfl)
  (hline:(apos.endLine==cpos.line)=true:=by rfl) (hs:starEach (e::es) X.env=(false,eval e X.env)::starEach es X.env:=by rfl) (hplain:(backTo cpos (starEach es X.env)).any (·.1)=false:=by rfl) :
  PE X (.Call (.Attribute o name apos) (e::es) [] cpos) (tBM X.K T r to t):=by
 intro pins s σ H Q I h;refine wpAny_Call_method_late hbase hfew hline rfl (thn (ho pins s σ H _ I h) λv s1 hq=>?_);obtain⟨x,H1,I1,r1,ty,q1⟩:=hq;obtain⟨h1,h2⟩:=zie I1 r1 ty;refine⟨T,id,pa,slot,hty,h1,h2,?_⟩;have hA:=ha cpos pins s1 σ H1 _ I1 q1;rw[hs]at hA ⊢;refine Calls.callWith_builtin (by show(false||(backTo cpos (starEach es X.env)).any (·.1))=false;rw[hplain] <;> rfl) (Calls.evalArgs_plain ?_);exact thn hA λus s2 ⟨vs,H2,I2,r2,q2⟩=>hm pins s2 σ H2 x vs v us Q I2 r1 r2 q2
end
end L2
namespace L2
open PySem PySem.Spec PyProof.Rows
noncomputable def MtM(X:Cx)(id:String)(r:V->List V->Hp->VK->Prop):Prop :=
 ∀(pins:List (Addr×Obj)) (s:Shared) (σ:St) (H:Hp) (x:V) (xs:List V) (v:Value) (us:List Value) (Q:VK),Inv X pins σ H s->RelV x v->Vals xs us->r x xs H Q->
  wpAny (model X.prog X.w) X.A (call (.builtin id) (v::us)) (EP X pins σ Q) X.xe s
theorem Vals.one(h:Vals [x] us):∃u,us=[u]/\RelV x u:=by
 cases h with|cons r t=>cases t;exact⟨_,rfl,r⟩
theorem Vals.zero:∀ {us:List Value},Vals [] us->us=[]
 |_,.nil=>rfl
theorem Vals.dropLast(h:Vals xs us):Vals xs.dropLast us.dropLast:=by
 induction h with
 |nil=>exact .nil
 |cons r t ih=>
  cases t with
  |nil=>exact .nil
  |cons q t'=>exact .cons r ih
theorem Vals.eraseIdx:∀ {xs:List V} {us:List Value} (i:Nat),Vals xs us->Vals (xs.eraseIdx i) (us.eraseIdx i)
 |_,_,_,.nil=>.nil
 |_,_,0,.cons _ t=>t
 |_,_,i+1,.cons r t=>.cons r (Vals.eraseIdx i t)
theorem Vals.reverse(h:Vals xs us):Vals xs.reverse us.reverse:=by
 induction h with
 |nil=>exact .nil
 |cons r t ih=>rw[List.reverse_cons,List.reverse_cons];exact Vals.append ih (.cons r .nil)
theorem Vals.rep(h:Vals xs us):∀k:Nat,Vals (List.replicate k xs).flatten (List.replicate k us).flatten
 |0=>.nil
 |k+1=>by
  rw[List.replicate_succ,List.replicate_succ,List.flatten_cons,List.flatten_cons];exact Vals.append h (Vals.rep h k)
theorem zfi{α:Type}(l:List α):l.eraseIdx (l.length-1)=l.dropLast:=by
 induction l with
 |nil=>rfl
 |cons a r ih=>
  cases r with
  |nil=>rfl
  |cons b r=>
   have e:(a::b::r).length-1=((b::r).length-1)+1:=by
    have h1:(a::b::r).length=r.length+2:=rfl;have h2:(b::r).length=r.length+1:=rfl
    lia
   rw[e,List.eraseIdx_cons_succ,ih]
   all_goals rfl
theorem yd0{α:Type}:∀(l:List α) (i:Nat),(l.eraseIdx i).length<=l.length
 | [],_=>Nat.le_refl _
 |_::_,0=>Nat.le_succ _
 |_::r,i+1=>Nat.succ_le_succ (yd0 r i)
theorem zcY(its:List Value):∀(k:Nat) (acc:List Value),
  List.foldl (λx1 x2=>x1++x2) acc.toArray (List.replicate k its.toArray)=(acc++(List.replicate k its).flatten).toArray
 |0,acc=>by simp
 |k+1,acc=>by
  have e:acc.toArray++its.toArray=(acc++its).toArray:=by simp
  have e2:(acc++its)++(List.replicate k its).flatten=acc++(List.replicate (k+1) its).flatten:=by
   rw[List.replicate_succ,List.flatten_cons,List.append_assoc]
  rw[<-e2,<-zcY its k (acc++its),<-e,List.replicate_succ,List.foldl_cons]
section
variable {X:Cx} {pins:List (Addr×Obj)} {σ:St} {H:Hp} {s:Shared} {l b:Addr} {xs ys zs:List V}
theorem Inv.lset{its its':List Value}{n:Nat}{f:Array Value->Array Value}{t':Nat}(I:Inv X pins σ H s)(hH:H l=some (.lst xs))
  (e:s.heap.get? l=some { cls:=.type "list",data:=.seq its.toArray n }) (hf:f its.toArray=its'.toArray) (hv:Vals ys its') (hz:ys.length<=sizeLine) :
  Inv X pins σ (upd H l (.lst ys)) { s with heap:=s.heap.update l (Obj.mapSeq f),toks:=t' }:=by
 have q:=PySem.IsL.update e f;rw[hf]at q;refine I.write (x:=l) (e:=l) (by rw[hH];exact trivial) (.inl rfl) (λb' u hb hu=>(Heap.get?_update_other s.heap (Obj.mapSeq f) (Ne.symm hb)).trans hu) ⟨_,q⟩ ?_;exact⟨hz,its',_,hv,q⟩
theorem Inv.lnew{t':Nat}(I:Inv X pins σ H s)(hv:Vals ys its)(hz:ys.length<=sizeLine) :
  Inv X pins σ (upd H s.heap.objs.size (.lst ys)) { s with heap:=s.heap.push { cls:=.type "list",data:=.seq its.toArray },toks:=t' } :=
 I.laid (λ_ _ q=>Heap.get?_push_of_some _ q) (Nat.le_refl _) ⟨hz,its,0,hv,Heap.get?_push_size _ rfl⟩
theorem Inv.fresh(I:Inv X pins σ H s):H s.heap.objs.size=none:=I.hok.fresh (Nat.le_refl _)
theorem Inv.lstM(I:Inv X pins σ H s)(hH:H l=some (.lst xs)):xs.length<=sizeLine/\Ex2 λ(its:List Value) (n:Nat)=>Vals xs its/\xs.length=its.length/\s.heap.get? l=some { cls:=.type "list",data:=.seq its.toArray n }:=by
 obtain⟨z,its,n,r,e⟩:=I.hok l _ hH;exact⟨z,its,n,r,r.length,e⟩
theorem ye6{n:Nat}(h:n<=sizeLine):Builtin.List.listTooLong n=false:=by
 unfold Builtin.List.listTooLong;exact decide_eq_false (by lia)
end
section
variable {X:Cx}
noncomputable def yhG:V->List V->Hp->VK->Prop:=λx vs H Q=>Ex3 λl xs y=>x = .ref l/\vs=[y]/\H l=some (.lst xs)/\xs.length<sizeLine/\Q .non (upd H l (.lst (xs++[y])))
theorem zcd:MtM X "list.append" yhG:=by
 intro pins s σ H x vs v us Q I rx rv h;obtain⟨l,xs,y,rfl,rfl,hH,hz,q⟩:=h;cases rx;obtain⟨u,rfl,ru⟩:=rv.one;obtain⟨z,its,n,r,hl,e⟩:=I.lstM hH;refine call_meets F.slot_list_append ⟨_,e,rfl⟩ F.entry_list_append (F.args_list_append_2 _ _) (PySem.list_append l its.toArray n u (by rw[List.size_toArray];lia)) ⟨e,?_⟩;refine⟨.non,_,I.lset (its':=its++[u]) hH e (by simp) (r.append (.cons ru .nil)) ?_,rfl,q⟩;rw[List.length_append,List.length_singleton]
 lia
noncomputable def yhR:V->List V->Hp->VK->Prop:=λx vs H Q=>Ex4 λl b xs zs=>x = .ref l/\vs=[.ref b]/\H l=some (.lst xs)/\H b=some (.lst zs)/\xs.length+zs.length<=sizeLine/\Q .non (upd H l (.lst (xs++zs)))
theorem zgn:MtM X "list.extend" yhR:=by
 intro pins s σ H x vs v us Q I rx rv h;obtain⟨l,b,xs,zs,rfl,rfl,hH,hB,hz,q⟩:=h;cases rx;obtain⟨u,rfl,ru⟩:=rv.one;cases ru;obtain⟨z,its,n,r,hl,e⟩:=I.lstM hH;obtain⟨z2,its2,n2,r2,hl2,e2⟩:=I.lstM hB;have hsz:its.toArray.size+its2.toArray.size<=sizeLine:=by rw[List.size_toArray,List.size_toArray];lia
 have hlong:¬ (!its.toArray.isEmpty&&Builtin.List.listTooLong (its.toArray.size+its2.toArray.size))=true:=by
  rw[ye6 hsz,Bool.and_false];exact Bool.false_ne_true
 refine call_meets F.slot_list_extend ⟨_,e,rfl⟩ F.entry_list_extend (F.args_list_extend_2 _ _)
  (AutoSeq1.list_extend_list_list_0 l its.toArray n b its2.toArray n2 hlong (by rw[List.size_toArray];lia) (by lia)) ⟨e,e2,?_⟩
 refine⟨.non,_,I.lset (its':=its++its2) hH e (by simp) (r.append r2) ?_,rfl,q⟩;rw[List.length_append]
 lia
noncomputable def rPop:V->List V->Hp->VK->Prop:=λx vs H Q=>Ex3 λl xs y=>x = .ref l/\vs=[]/\H l=some (.lst xs)/\xs[xs.length-1]?=some y/\Q y (upd H l (.lst xs.dropLast))
theorem mt_pop:MtM X "list.pop" rPop:=by
 intro pins s σ H x vs v us Q I rx rv h;obtain⟨l,xs,y,rfl,rfl,hH,hy,q⟩:=h;cases rx;have hus:=rv.zero;subst hus;obtain⟨z,its,n,r,hl,e⟩:=I.lstM hH;obtain⟨u,hu,ru⟩:=r.get hy;have hy':its.toArray[its.toArray.size-1]?=some u:=by
  show its.toArray[its.length-1]?=some u;rw[<-Array.getElem?_toList,<-hl];exact hu
 refine call_meets F.slot_list_pop ⟨_,e,rfl⟩ F.entry_list_pop (F.args_list_pop_1 _) (MeetsSeq.list_pop_last l its.toArray n u hy' (by rw[List.size_toArray];lia)) ⟨e,?_⟩;refine⟨y,_,I.lset (its':=its.dropLast) hH e ?_ r.dropLast ?_,ru,q⟩
 ·show its.toArray.eraseIdxIfInBounds (its.toArray.size-1)=its.dropLast.toArray;rw[List.size_toArray,List.eraseIdxIfInBounds_toArray,zfi]
 ·rw[List.length_dropLast]
  lia
noncomputable def yiw:V->List V->Hp->VK->Prop:=λx vs H Q=>Ex5 λl xs i k y=>x = .ref l/\vs=[.int i]/\H l=some (.lst xs)/\-(2^63)<=i/\i<2^63/\seqIndex? i xs.length=some k/\xs[k]?=some y/\Q y (upd H l (.lst (xs.eraseIdx k)))
theorem zgC:MtM X "list.pop" yiw:=by
 intro pins s σ H x vs v us Q I rx rv h;obtain⟨l,xs,i,k,y,rfl,rfl,hH,h1,h2,hk,hy,q⟩:=h;cases rx;obtain⟨u,rfl,ru⟩:=rv.one;obtain⟨t,rfl⟩:=ru;obtain⟨z,its,n,r,hl,e⟩:=I.lstM hH;obtain⟨w,hw,rw'⟩:=r.get hy;refine call_meets F.slot_list_pop ⟨_,e,rfl⟩ F.entry_list_pop (F.args_list_pop_2 _ _)
  (MeetsSeq.list_pop_at l its.toArray n i t k w (fitsIndex_both h1 h2) (by rw[List.size_toArray,<-hl];exact hk) (by rw[<-Array.getElem?_toList];exact hw) (by rw[List.size_toArray];lia)) ⟨e,?_⟩
 refine⟨y,_,I.lset (its':=its.eraseIdx k) hH e ?_ (r.eraseIdx k) ?_,rw',q⟩
 ·show its.toArray.eraseIdxIfInBounds k=(its.eraseIdx k).toArray;rw[List.eraseIdxIfInBounds_toArray]
 ·have:=yd0 xs k
  lia
noncomputable def rCat:R2:=λx y H Q=>Ex4 λl b xs zs=>x = .ref l/\y = .ref b/\H l=some (.lst xs)/\H b=some (.lst zs)/\xs.length+zs.length<=sizeLine/\∀p,H p=none->Q (.ref p) (upd H p (.lst (xs++zs)))
theorem ycL:OpR X (binaryOp .Add) rCat:=by
 intro pins s σ H x y v u Q I rx ry h;obtain⟨l,b,xs,zs,rfl,rfl,hH,hB,hz,q⟩:=h;cases rx;cases ry;obtain⟨z,its,n,r,hl,e⟩:=I.lstM hH;obtain⟨z2,its2,n2,r2,hl2,e2⟩:=I.lstM hB;refine PySem.P.add_list e e2 ?_ (by rw[List.size_toArray,List.size_toArray];lia);have ea:its.toArray++its2.toArray=(its++its2).toArray:=by simp
 rw[ea];exact⟨.ref _,_,I.lnew (t':=s.toks) (r.append r2) (by rw[List.length_append];lia),rfl,q _ I.fresh⟩
noncomputable def rRep:R2:=λx y H Q=>Ex3 λl k xs=>x = .ref l/\y = .int k/\H l=some (.lst xs)/\-(2^63)<=k/\k<2^63/\xs.length*k.toNat<=sizeLine/\
 ∀p,H p=none->Q (.ref p) (upd H p (.lst (List.replicate k.toNat xs).flatten))
theorem yf6{α:Type}(xs:List α)(k:Nat):(List.replicate k xs).flatten.length=k*xs.length:=by
 induction k with
 |zero=>simp
 |succ k ih=>rw[List.replicate_succ,List.flatten_cons,List.length_append,ih,Nat.succ_mul,Nat.add_comm]
theorem zcn:OpR X (binaryOp .Mult) rRep:=by
 intro pins s σ H x y v u Q I rx ry h;obtain⟨l,k,xs,rfl,rfl,hH,h1,h2,hz,q⟩:=h;cases rx;obtain⟨t,rfl⟩:=ry;obtain⟨z,its,n,r,hl,e⟩:=I.lstM hH;have hlen:its.toArray.size*k.toNat<=sizeLine:=by rw[List.size_toArray,<-hl];exact hz
 have hcap:¬ its.toArray.size*k.toNat>(2^63-1)/8:=by
  have:(sizeLine:Nat)<=(2^63-1)/8:=by decide
  lia
 have hfit:¬ (!Builtin.List.listFitsIndex k)=true:=by
  rw[fitsIndex_both h1 h2];exact Bool.false_ne_true
 have hlong:¬ Builtin.List.listTooLong (its.toArray.size*k.toNat)=true:=by
  rw[ye6 hlen];exact Bool.false_ne_true
 have hnew:List.foldl (λx1 x2=>x1++x2) #[] (List.replicate (if its.toArray.isEmpty=true then 0 else k.toNat) its.toArray)=(List.replicate k.toNat its).flatten.toArray:=by
  have f0:∀m:Nat,List.foldl (λx1 x2=>x1++x2) #[] (List.replicate m its.toArray)=(List.replicate m its).flatten.toArray:=λm=>by
   have:=zcY its m [];rw[List.nil_append]at this;exact this
  rw[f0];cases its with
  |nil=>simp
  |cons a r'=>rw[if_neg (by simp)]
 refine wpAny_binaryOp_repeat_ref (T:="list") (U:="int") (by decide) ⟨_,e,rfl⟩ (λs'=>typeIs_int s' k t) noFill_list_mul F.fills_int_mul F.slot_int_rmul repeat_list F.slot_int_index.lookup
  (call_meets F.slot_int_rmul (typeIs_int s k t) F.entry_int_rmul (F.args_int_rmul_2 _ _) (int___rmul___int_list k t l its.toArray n)
   ⟨e,rfl,⟨_,e,rfl⟩,call_meets F.slot_list_mul ⟨_,e,rfl⟩ F.entry_list_mul (F.args_list_mul_2 _ _) (AutoListH.list___mul___list_int_3 l its.toArray n k t hfit hcap hlong) ⟨e,?_⟩⟩)
 rw[hnew];exact⟨.ref _,_,I.lnew (t':=s.toks) (r.rep k.toNat) (by rw[yf6,Nat.mul_comm];exact hz),rfl,q _ I.fresh⟩
end
end L2
namespace Att
open PySem PySem.W PySem.Calls PyProof.Rows
theorem zc1{P:Params}:∀(ns:List Int) (vs:List Value),WellAll P h vs (ns.map WData.int)->IntsAre vs ns:=by
 intro ns
 induction ns with
 |nil=>
  intro vs w;rw[List.map_nil]at w;cases w;exact .nil
 |cons n ns ih=>
  intro vs w;rw[List.map_cons]at w;cases w with
  |cons a b=>
   cases a;exact .cons _ _ (ih _ b)
theorem yfE{l:OpenLaw}{n:Nat}(hn:l.most=some n){P:Params}{args:List WData}
  (hpre:l.row.toRowW.claim.pre args=true) (hwl:WellAll P h vals args) :
  Ex3 λa vs ns=>vals=[Value.ref a]/\args=[WData.list (ns.map WData.int)]/\h.get? a=some { cls:=.type "list",data:=.seq vs.toArray }/\IntsAre vs ns/\ns.length<=n:=by
 have hsh:WShape.hasAll [] args [.list .int]=true:=(pre_splitW hpre).1;have hc:l.pre.holds [] { args:=args }=true:=(pre_splitW hpre).2;obtain⟨d,r,rfl,h1,h2⟩:=hasAllW_cons hsh;obtain rfl:=hasAllW_nil h2;obtain⟨xs,rfl,h3⟩:=hasW_list h1;obtain⟨ns,rfl⟩:=items_int h3;have hlen:ns.length<=n:=by
  unfold OpenLaw.pre at hc;have h4:(WTm.not (.lt (.lit (.int (n:Int))) (.len (.arg 0)))).holds [] { args:=[.list (ns.map .int)] }=true:=by
   have h4:=(holds_andW hc).1;rw[hn]at h4;exact h4
  have h5:=condW_of h4 (w_not (w_lt w_lit (w_len_list (w_arg rfl))));rw[List.length_map]at h5;refine Nat.le_of_not_lt λq=>?_
  have q':(n:Int)<((ns.length:Nat):Int):=by lia
  first
   |(rw[decide_eq_true q']at h5;exact absurd h5 (by decide))
   |(simp at h5;lia)
 cases hwl with
 |cons w1 w2=>
  cases w2;cases w1 with
  |list ho hall=>exact⟨_,_,ns,rfl,rfl,ho,zc1 ns _ hall,hlen⟩
theorem ygh(l:OpenLaw)(args:List WData):l.row.toRowW.claim.post args (.bool true) args=true :=
 postW_of (r:=l.row.toRowW) (X:=(true==true))
  (show WShape.has [] (.bool true) .bool=true by first|rfl|decide|simp[WShape.has,WShape.arms,WShape.armsAll])
  (show(WTm.eq .res (.lit (.bool true))).value [] { args:=args,res:=some (.bool true),after:=args }=some (.bool (true==true)) from w_eq_bool (w_res rfl) w_lit) rfl
theorem attach_call{l:OpenLaw}{n:Nat}{XP:(Str->Option Value)->Heap->Prop}{YP:World->Heap->Prop}{d:DefRec}
  (hn:l.most=some n) (hdf:d.params.defaults=[])
  (call:∀(w:World) (s₀ s₁:Shared) (mg mb:Str->Option Value) (fa:Addr) (o:Obj) (pm cd doc:Value) (a:Addr) (vs:List Value) (ns:List Int),
   Ground q loose [] XP w s₀ mg mb s₁.heap->YP w s₁.heap->
   s₁.heap.get? fa=some o->o.data = .func (docDef d.name d.params d.body d.scope pm cd doc)->s₁.heap.CodeRec cd d.name->mg d.name=some (.ref fa)->
   s₁.heap.get? a=some { cls:=.type "list",data:=.seq vs.toArray }->IntsAre vs ns->ns.length<=n->s₁.gens = #[]->
   codeAny (model l.prog w) callerA (.call (.ref fa) ⟨[.ref a],[]⟩) (λr s'=>r = .ok (.ret (.bool true))/\OldK s₁.heap s'.heap/\s'.os=s₁.os/\AllBare s'.gens) s₁) :
  WalkO q loose XP YP l.row.toRowW d [] (λf vs=>PySem.call f vs):=by
 intro w s₀ s₁ mg mb G Y fa o pm cd doc dV kV ho hd hcd hD hmg hg args vals as hpre hlay hrd hwl hlo;obtain rfl:dV = .none:=Dflts.none hD hdf;obtain rfl:kV = .none:=Dflts.noKw hD;obtain⟨a,vs,ns,rfl,rfl,hobj,hints,hlen⟩:=yfE hn hpre hwl;refine enter_call (codeAny_mono (call w s₀ s₁ mg mb fa o pm cd doc a vs ns G Y ho (fd_plain hd) hcd hmg hobj hints hlen hg) λr s' hq=>?_);obtain⟨rfl,h2,h3,h4⟩:=hq;exact⟨.inl ⟨.bool true,.bool true,[],rfl,λ_=>rfl,.bool true,ygh l _,λ_=>⟨List.Pairwise.nil,λ_ hm=>(nomatch hm)⟩⟩,h2,h3,h4⟩
end Att
namespace L2
open PySem PySem.Spec PyProof.Rows
theorem zdZ:∀ {vs:List Value} {ns:List Int},IntsAre vs ns->Vals (ns.map V.int) vs
 |_,_,.nil=>.nil
 |_,_,.cons n t h=>.cons ⟨t,rfl⟩ (zdZ h)
def Only(H:Hp):Prop:=∀b,H b=none\/Ex2 λo xs=>H b=some (.frz o (.lst xs))
theorem zgB{K:PySem.W.Frag}{CX:CXT}{k:Nat}{ns:List Int}
  (KX:K.In s₁.heap) (hns:s₁.heap.Ns mainGlobals mg) (hb:s₁.heap.Ns builtinsNs mb) (hbb:∀x:Str,x≠"__name__"->mb x=bootBuiltins x) (hlim:s₁.heap.NoLimit) (hg:s₁.gens = #[])
  (ha:s₁.heap.get? a=some { cls:=.type "list",data:=.seq vs.toArray }) (hi:IntsAre vs ns) (hl:ns.length<=sizeLine) (hr:Room k callerA)
  (F:∀base:Heap,K.In base->base.Ns mainGlobals mg->FnOk P w K mg base CX k fa fd [x] sp) (hbind:∀(s:Shared) (u:Value),BindsTo s fd ⟨[u],[]⟩ [(x,u)])
  (hsp:∀H:Hp,Only H->SqL K H a (ns.map V.int)->sp [.ref a] H (λv _=>v = .bl true) λ_ _ _=>False)
  (hCX:∀H e s',CX [] H s₁ (λ_ _ _=>False) e s'->False) :
  codeAny (model P w) callerA (.call (.ref fa) ⟨[.ref a],[]⟩) (λr s'=>r = .ok (.ret (.bool true))/\OldK s₁.heap s'.heap/\s'.os=s₁.os/\AllBare s'.gens) s₁:=by
 have rv:=zdZ hi;have lenV:=hi.length;have core:∀H:Hp,Only H->SqL K H a (ns.map V.int)->HOk P w H s₁.heap->(∀b,H b≠none->b=a)->(H a≠none->K.lookup a=none)->
   codeAny (model P w) callerA (.call (.ref fa) ⟨[.ref a],[]⟩) (λr s'=>r = .ok (.ret (.bool true))/\OldK s₁.heap s'.heap/\s'.os=s₁.os/\AllBare s'.gens) s₁:=by
  intro H hO hS hok hA hK;have base_of:∀ {b:Addr} {o:Obj},s₁.heap.get? b=some o->H b=none->(hidT s₁.heap H).get? b=some o:=λe n=>zgO e n
  have noA:∀ {b:Addr} {o:Obj} {es:Array DictEntry} {ep:Nat},s₁.heap.get? b=some o->o.data = .dict es ep->H b=none:=λ{b o es ep} e d=>by
   cases q:H b with
   |none=>rfl
   |some u=>
    have e':b=a:=hA b (by rw[q];simp);subst e';rw[ha]at e;cases e;have d':Data.seq vs.toArray _=Data.dict es ep:=d;cases d'
  have nsK:∀ {b:Addr} {m:Str->Option Value},s₁.heap.Ns b m->(hidT s₁.heap H).Ns b m:=λ{b m} ⟨o,es,ep,e,d,r⟩=>⟨o,es,ep,base_of e (noA e d),d,r⟩
  have hKb:K.In (hidT s₁.heap H):=λb o e=>base_of (KX b o e) (by
   cases q:H b with
   |none=>rfl
   |some u=>
    have e':b=a:=hA b (by rw[q];simp);subst e';rw[hK (by rw[q];simp)]at e;cases e)
  have hM:Mod K mg (hidT s₁.heap H):=⟨hKb,nsK hns,⟨mb,nsK hb,hbb⟩,let ⟨mc,h1,h2⟩:=hlim;⟨mc,nsK h1,h2⟩⟩
  have e0:Env0 P w K mg (hidT s₁.heap H) callerA [] s₁ H:=⟨rfl,hM,λb o e=>yhs e,Nat.le_of_eq (ygk _ _),trivial,λb hb=>absurd (show b∈([]:List Addr) from hb) (by simp),hok,.of_eq hg⟩
  refine codeAny_mono ((F _ hKb (nsK hns)).run callerA [] s₁ H ⟨[.ref a],[]⟩ [.ref a] [.ref a] _ _ hr e0 (hbind s₁ (.ref a)) (.cons rfl .nil) (hsp H hO hS)) λr s' h=>?_
  cases r with
  |error e=>exact(hCX H e s' h).elim
  |ok fl=>
   cases fl with
   |next=>exact False.elim h
   |brk=>exact False.elim h
   |cont=>exact False.elim h
   |ret u=>
    obtain⟨v,H',os,bare,un,hok',r',q⟩:=h;have q':v = .bl true:=q;subst q';obtain rfl:u=Value.bool true:=r';refine⟨rfl,OldK.of_keep λb o e=>?_,os,bare⟩;cases q:H b with
    |none=>exact un.keep b o e q (by intro z;exact absurd (show b∈([]:List Addr) from z) (by simp)) (by simp)
    |some u=>
     rcases hO b with z |⟨ob,xs,z⟩
     ·rw[q]at z;cases z
     ·have z2:=un.frzs b ob _ z;obtain⟨e1,_⟩:=hok b _ z;obtain⟨e2,_⟩:=hok' b _ z2;rw[e]at e1;cases e1;exact e2
 cases hk:K.lookup a with
 |some o=>
  have e:=KX a o hk;rw[ha]at e;cases e;refine core (λ_=>none) (λ_=>.inl rfl) (.inr ⟨_,vs.toArray,_,hk,rfl,rfl,rfl,by rw[List.size_toArray,lenV];exact hl,by simpa using rv⟩) (λb u z=>by have z':(none:Option HO)=some u:=z;cases z') (λb z=>absurd rfl z) λz=>absurd rfl z
 |none=>
  refine core (λb=>if b=a then some (.frz { cls:=.type "list",data:=.seq vs.toArray } (.lst (ns.map V.int))) else none) (λb=>?_) (.inl (.inr ⟨{ cls:=.type "list",data:=.seq vs.toArray },if_pos rfl⟩)) (λb u z=>?_) (λb z=>?_) λ_=>hk
  ·by_cases hb:b=a
   ·exact .inr ⟨_,_,if_pos hb⟩
   ·exact .inl (if_neg hb)
  ·by_cases hb:b=a
   ·have z':=(if_pos hb).symm.trans z;cases z';subst hb;exact⟨ha,by rw[List.length_map];exact hl,vs,_,rv,ha⟩
   ·have z':=(if_neg hb).symm.trans z;cases z'
  ·by_cases hb:b=a
   ·exact hb
   ·exact absurd (if_neg hb) z
end L2
namespace L2
open PySem PySem.Spec PyProof.Rows
abbrev KOf{K:PySem.W.Frag}{h:Heap}(_:K.In h):PySem.W.Frag:=K
theorem walk_of{l:PySem.W.OpenLaw}{n k:Nat}{XP:(Str->Option Value)->Heap->Prop}{YP:World->Heap->Prop}{d:DefRec}{K:Params->PySem.W.Frag}{CX:World->CXT}{sp:World->Sp}
  (hn:l.most=some n) (hn2:n<=sizeLine) (hdf:d.params.defaults=[]) (hr:Room k callerA)
  (hY:∀(w:World) (h:Heap),YP w h->(K w.params).In h)
  (F:∀(w:World) (mg:Str->Option Value) (fa:Addr) (h:Heap),(K w.params).In h->h.Ns mainGlobals mg->mg d.name=some (.ref fa)->
   ∃fd:FuncData,(∀(s:Shared) (u:Value),BindsTo s fd ⟨[u],[]⟩ [(x,u)])/\
    ∀base:Heap,(K w.params).In base->base.Ns mainGlobals mg->FnOk l.prog w (K w.params) mg base (CX w) k fa fd [x] (sp w))
  (hsp:∀(w:World) (H:Hp) (a:Addr) (ns:List Int),ns.length<=n->Only H->SqL (K w.params) H a (ns.map V.int)->sp w [.ref a] H (λv _=>v = .bl true) λ_ _ _=>False)
  (hCX:∀(w:World) (H:Hp) (s:Shared) (e:Value) (s':Shared),CX w [] H s (λ_ _ _=>False) e s'->False) :
  PySem.W.WalkO q loose XP YP l.row.toRowW d [] (λf vs=>PySem.call f vs):=by
 refine Att.attach_call hn hdf λw s₀ s₁ mg mb fa o pm cd doc a vs ns G Y ho hd hcd hmg hobj hints hlen hg=>?_
 have KX:=hY w _ Y;obtain⟨fd,hb,hF⟩:=F w mg fa _ KX G.T.g hmg;exact zgB KX G.T.g G.T.b G.T.builtins G.T.nolimit hg hobj hints (Nat.le_trans hlen hn2) hr hF hb (λH hO hS=>hsp w H a ns hlen hO hS) λH e s'=>hCX w H s₁ e s'
end L2
namespace L2
open PySem PySem.Spec PyProof.Rows
noncomputable def zbW(s:Stmt):Arguments:=match s with
 | .FunctionDef _ a _ _ _ _ _ _ _ _=>a
 |_=>{ posonlyargs:=[],args:=[],vararg:=none,kwonlyargs:=[],kw_defaults:=[],kwarg:=none,defaults:=[] }
def zbz(s:Stmt):List Stmt:=match s with
 | .FunctionDef _ _ b _ _ _ _ _ _ _=>b
 |_=>[]
noncomputable def zac(s:Stmt):Scope:=match s with
 | .FunctionDef _ _ _ _ _ _ sc _ _ _=>sc
 |_=>{ kind:=.function,names:=[],isGenerator:=false,isCoroutine:=false }
abbrev CX0:CXT:=λ_ _ _ _ _ _=>False
abbrev E0:XK:=λ_ _ _=>False
theorem ziB{X:Cx}:zfv CX0 X E0:=λ_ _ _ _ _ _ _ h=>h.elim
structure Fun(K:PySem.W.Frag)(x qual:Str)(st:Stmt)(f:Addr)(fd:FuncData):Prop where
 ex:Ex9 λ(oc:Value) (od:Option Addr) (kV doc pm:Value) (an:Option Addr) (cdv ct:Value) (osl:Array (Option Value))=>
  fd=PySem.W.fnOf x qual (zbW st) (zbz st) (zac st) .none kV doc pm an cdv ct/\K.lookup f=some ⟨oc,od,.func fd,osl⟩/\PySem.W.codeIn K cdv qual=true
 kp:PySem.W.keepIn K (.ref f)=true
section
variable {P:Program} {w:World} {K:PySem.W.Frag} {mg:Str->Option Value} {base:Heap}
theorem Fun.ok{x qual:Str}{st:Stmt}{f:Addr}{fd:FuncData}{N ps:List Str}{k:Nat}{sp:Sp}(F:Fun K x qual st f fd)(S:yad N ps (zac st))(len:∀vs H Q E,sp vs H Q E->vs.length=ps.length)
  (hbody:∀(cdv:Value) (A:Around) (outer:List Env) (s:Shared) (H:Hp) (vs:List V) (Q:VK) (E:XK),Room k (A.deeper (envOfC qual (zac st) s.heap.objs.size f cdv))->sp vs H Q E->
   ∃t,PSs (cxOf CX0 P w K mg base N qual (zac st) f cdv A outer s H E).nox (zbz st) t/\t { nx:=λ_ H'=>Q .non H',rt:=Q } (ydR N vs) H):FnOk P w K mg base CX0 (k+1) f fd ps sp:=by
 obtain⟨oc,od,kV,doc,pm,an,cdv,ct,osl,rfl,lk,hcd⟩:=F.ex;refine ziT lk hcd S len λA outer s H vs Q E hr hsp=>?_
 obtain⟨t,h,q⟩:=hbody cdv A outer s H vs Q E hr hsp;exact⟨t,h.nox,q⟩
theorem Fun.binds{x qual:Str}{st:Stmt}{f:Addr}{fd:FuncData}{ps:List Str}(F:Fun K x qual st f fd)
  (h:∀(kV doc pm:Value) (an:Option Addr) (cdv ct:Value) (us:List Value),us.length=ps.length->bindArgs (PySem.W.fnOf x qual (zbW st) (zbz st) (zac st) .none kV doc pm an cdv ct) ⟨us,[]⟩=pure (ps.zip us)):zfl K fd ps []:=by
 obtain⟨oc,od,kV,doc,pm,an,cdv,ct,osl,rfl,lk,hcd⟩:=F.ex;exact .all (h kV doc pm an cdv ct)
theorem zg9{x qual:Str}{st:Stmt}{f:Addr}{oc:Value}{od an:Option Addr}{osl:Array (Option Value)}{kV doc pm cdv ct:Value}(l:K.lookup f=some ⟨oc,od,.func (PySem.W.fnOf x qual (zbW st) (zbz st) (zac st) .none kV doc pm an cdv ct),osl⟩)
  (c:PySem.W.codeIn K cdv qual=true) (k:PySem.W.keepIn K (.ref f)=true):Fun K x qual st f (PySem.W.fnOf x qual (zbW st) (zbz st) (zac st) .none kV doc pm an cdv ct):=⟨⟨oc,od,kV,doc,pm,an,cdv,ct,osl,rfl,l,c⟩,k⟩
end
theorem yiA{k:Nat}(hr:Room k A):A.units+1<cLine:=Nat.lt_of_le_of_lt (Nat.add_le_add_left (by decide:1<=64) _) hr.units
theorem zai{n:Nat}(h:n<=1000):n<sizeLine:=Nat.lt_of_le_of_lt h (by decide)
section
variable {X:Cx}
theorem pv(i:Nat)(hN:X.N[i]?=some x:=by rfl)(hv:Vis X.env.scope x:=by first|exact Or.inl rfl|exact Or.inr (Or.inl rfl)|exact Or.inr (Or.inr rfl))(hd:(x==("__debug__":Str))=false:=by decide)
  (hcd:(x==("__classdict__":Str))=false:=by decide):PE X (.Name x pos) (tVar i):=yif hN hv hd hcd
end
theorem ite2{c A B:Prop}[Decidable c](h1:c->A)(h2:¬ c->B):if c then A else B:=by
 by_cases h:c
 ·rw[if_pos h];exact h1 h
 ·rw[if_neg h];exact h2 h
def Same(H H':Hp):Prop:=∀b o,H b=some o->H' b=some o
theorem Same.refl(H:Hp):Same H H:=λ_ _ h=>h
theorem Same.trans(a:Same H H1)(b:Same H1 H2):Same H H2:=λc o h=>b c o (a c o h)
theorem Same.free(e:Same H H')(h:H' l=Option.none):H l=Option.none:=by
 cases q:H l with
 |none=>rfl
 |some o=>
  rw[e l o q]at h;cases h
theorem Same.seq{K:PySem.W.Frag}(e:Same H H')(h:SqL K H a xs):SqL K H' a xs:=by
 rcases h with(h |⟨o,h⟩)|h
 ·exact .inl (.inl (e _ _ h))
 ·exact .inl (.inr ⟨o,e _ _ h⟩)
 ·exact .inr h
end L2
end
section
namespace L2
open PySem PySem.Spec PyProof.Rows
section
variable {κ:Type} [DecidableEq κ]
def valV(kvs:List (κ×V))(k:κ):Option V:=(kvs.find? λkv=>decide (kv.1=k)).map (·.2)
noncomputable def putK(kvs:List (κ×V))(k:κ)(v:V):List (κ×V) :=
 if (kvs.any λkv=>decide (kv.1=k))=true then kvs.map (λkv=>if kv.1=k then(kv.1,v) else kv) else kvs++[(k,v)]
theorem yeP{p:κ×V}{r:List (κ×V)}{k:κ}(e:p.1=k):valV (p::r) k=some p.2:=by simp[valV,List.find?_cons,e]
theorem ye7{p:κ×V}{r:List (κ×V)}{k:κ}(e:¬ p.1=k):valV (p::r) k=valV r k:=by simp[valV,List.find?_cons,e]
theorem yeD(kvs:List (κ×V))(k:κ)(v:V):(putK kvs k v).length<=kvs.length+1:=by
 unfold putK;split
 ·rw[List.length_map];lia
 ·rw[List.length_append,List.length_cons,List.length_nil];lia
theorem KV.val{kvs:List (κ×V)}{vs:List (κ×Value)}(r:KV kvs vs)(k:κ):RelO (valV kvs k) (valueAt vs k):=by
 unfold KV at r
 induction r with
 |nil=>exact True.intro
 |@cons p q ps qs h t ih=>
  obtain⟨h1,h2⟩:=h;by_cases e:p.1=k
  ·have e':q.1=k:=h1.symm.trans e;have b:valueAt (q::qs) k=some q.2:=by simp[valueAt,List.find?_cons,e']
   rw[yeP e,b];exact h2
  ·have e':¬ q.1=k:=λz=>e (h1.trans z)
   have b:valueAt (q::qs) k=valueAt qs k:=by simp[valueAt,List.find?_cons,e']
   rw[ye7 e,b];exact ih
theorem KV.any{kvs:List (κ×V)}{vs:List (κ×Value)}(r:KV kvs vs)(k:κ):(kvs.any λkv=>decide (kv.1=k))=vs.any λkv=>decide (kv.1=k):=by
 unfold KV at r
 induction r with
 |nil=>rfl
 |cons h t ih=>rw[List.any_cons,List.any_cons,ih,h.1]
theorem KV.repl{kvs:List (κ×V)}{vs:List (κ×Value)}(r:KV kvs vs)(k:κ)(ry:RelV y u) :
  KV (kvs.map λkv=>if kv.1=k then(kv.1,y) else kv) (vs.map λkv=>if kv.1=k then(kv.1,u) else kv):=by
 unfold KV at r ⊢
 induction r with
 |nil=>exact .nil
 |@cons p q ps qs h t ih=>
  rw[List.map_cons,List.map_cons];refine .cons ?_ ih;obtain⟨h1,h2⟩:=h;by_cases e:p.1=k
  ·rw[if_pos e,if_pos (h1.symm.trans e)];exact⟨h1,ry⟩
  ·rw[if_neg e,if_neg (λz=>e (h1.trans z))];exact⟨h1,h2⟩
theorem KV.put{kvs:List (κ×V)}{vs:List (κ×Value)}(r:KV kvs vs)(k:κ)(ry:RelV y u):KV (putK kvs k y) (stored vs k u):=by
 unfold putK stored;rw[r.any k];by_cases e:(vs.any λkv=>decide (kv.1=k))=true
 ·rw[if_pos e,if_pos e];exact r.repl k ry
 ·rw[if_neg e,if_neg e];exact Paired.snoc r ⟨rfl,ry⟩
theorem KV.keys{kvs:List (κ×V)}{vs:List (κ×Value)}(r:KV kvs vs):kvs.map (·.1)=vs.map (·.1):=by
 unfold KV at r
 induction r with
 |nil=>rfl
 |cons h t ih=>rw[List.map_cons,List.map_cons,ih,h.1]
end
theorem ygW{k:Key}(r:RelV (kV k) u):(zaA P w).is k u=true:=by
 cases k with
 |inl i=>obtain⟨t,e⟩:=(show ∃t,u=Value.int i t from r);subst e;exact zem P w i t
 |inr x=>obtain⟨t,e⟩:=(show ∃t,u=Value.str x t from r);subst e;exact zeK P w x t
theorem zd8:∀ {ks:List Key} {us:List Value},Vals (ks.map kV) us->ItemsAre (zaA P w) ks us
 | [],_,r=>by rw[List.map_nil]at r;cases r;exact .nil
 |k::ks,_,r=>by
  rw[List.map_cons]at r;cases r with
  |cons h t=>exact .cons (ygW h) (zd8 t)
noncomputable abbrev KT(H:Hp):List (List Key×V)->List (List Key×Addr×Value)->Prop:=Paired λp q=>p.1=q.1/\H q.2.1=some (.tup (p.1.map kV))/\RelV p.2 q.2.2
theorem KT.val{kvs:List (List Key×V)}{xs:List (List Key×Addr×Value)}(r:KT H kvs xs)(k:List Key):RelO (valV kvs k) ((atKey xs k).map (·.2)):=by
 induction r with
 |nil=>exact True.intro
 |@cons p q ps qs h t ih=>
  obtain⟨h1,_,h2⟩:=h;by_cases e:p.1=k
  ·have e':q.1=k:=h1.symm.trans e;have b:atKey (q::qs) k=some q.2:=by simp[atKey,List.find?_cons,e']
   rw[yeP e,b];exact h2
  ·have e':¬ q.1=k:=λz=>e (h1.trans z)
   have b:atKey (q::qs) k=atKey qs k:=by simp[atKey,List.find?_cons,e']
   rw[ye7 e,b];exact ih
section
variable {P:Program} {w:World} {H:Hp} {h:Heap} {a:Addr}
theorem zid(ok:HOk P w H h)(e:Rd H a u):za5 P w H h a u:=e.ok ok
theorem yhy{kvs:List (Key×V)}(ok:HOk P w H h)(e:Rd H a (.dK kvs)):kvs.length<=sizeLine/\(a==sysModules)=false/\∃vs,KV kvs vs/\h.DictOf (zaA P w) a vs :=
 show za5 P w H h a (.dK kvs) from zid ok e
theorem ziH{kvs:List (Key×V)}(ok:HOk P w H h)(e:H a=some (.dK kvs)):kvs.length<=sizeLine/\(a==sysModules)=false/\∃vs,KV kvs vs/\h.DictOf (zaA P w) a vs:=yhy ok (.inl e)
theorem zhd{ks:List Key}(ok:HOk P w H h)(e:H a=some (.tup (ks.map kV))):(tupleKind (zaA P w)).is h ks a:=by
 obtain⟨_,its,r,o,h1,h2,n,h3⟩:=(show za5 P w H h a (.tup (ks.map kV)) from ok a _ e)
 exact⟨o,its.toArray,n,h1,h2,h3,by simpa using zd8 r⟩
theorem yin{kvs:List (List Key×V)}(ok:HOk P w H h)(e:Rd H a (.dT kvs)):kvs.length<=sizeLine/\(a==sysModules)=false/\
  ∃xs,KT H kvs xs/\h.DictOfH (tupleKind (zaA P w)) a xs:=by
 obtain⟨z,y,xs,r,o,es,ep,h1,h2,h3,h4,h5⟩:=(show za5 P w H h a (.dT kvs) from zid ok e)
 refine⟨z,y,xs,r,o,es,ep,h1,h2,h3,h4,λx hx=>?_,h5⟩;have all:∀ {l:List (List Key×V)} {m:List (List Key×Addr×Value)},KT H l m->∀x∈m,(tupleKind (zaA P w)).is h x.1 x.2.1:=by
  intro l m q
  induction q with
  |nil=>intro x hx;exact nomatch hx
  |@cons p q ps qs hq t ih=>
   intro x hx;rcases List.mem_cons.mp hx with e|hx
   ·subst e;exact zhd ok (by rw[<-hq.1];exact hq.2.1)
   ·exact ih x hx
 exact all r x hx
end
noncomputable def DGet(H:Hp)(a:Addr)(y:V)(r:Option V):Prop :=
 (Ex2 λkvs k=>Rd H a (.dK kvs)/\y=kV k/\r=valV kvs k)\/Ex3 λkvs k b=>Rd H a (.dT kvs)/\y = .ref b/\H b=some (.tup (k.map kV))/\r=valV kvs k
theorem DGet.k{kvs:List (Key×V)}{k:Key}(e:H a=some (.dK kvs)):DGet H a (kV k) (valV kvs k):=.inl ⟨kvs,k,.inl e,rfl,rfl⟩
section
variable {X:Cx} {pins:List (Addr×Obj)} {σ:St} {H:Hp} {s:Shared} {a:Addr} {y v:V} {u r:Value} {o:Option V} {A:Around} {E:Value->Shared->Prop}
theorem Inv.big(I:Inv X pins σ H s):sysModules<s.heap.objs.size:=by
 have h:mainGlobals<s.heap.objs.size:=(I.mod.glob.keeps I.bk).lt;exact Nat.lt_trans (by decide) h
theorem zfu(hu:A.units+1<cLine)(I:Inv X pins σ H s)(g:DGet H a y (some v))(ry:RelV y u)(h:∀w' s',Inv X pins σ H s'->RelV v w'->Q w' s') :
  wpAny (model X.prog X.w) A (getItem (.ref a) u) Q E s:=by
 rcases g with⟨kvs,k,e,ey,l⟩ |⟨kvs,k,b,e,ey,eb,l⟩
 ·subst ey;obtain⟨z,hd,vs,rel,dd⟩:=yhy I.hok e;obtain⟨w',hw,rw'⟩:=RelO.some_of (v:=v) (o:=valueAt vs k) (by rw[l];exact rel.val k);exact wpAny_getItem_of (ygW ry) dd.mapOf hw (h w' _ (I.tok _) rw')
 ·subst ey;cases (show u=Value.ref b from ry);obtain⟨z,hd,xs,rel,dd⟩:=yin I.hok e;obtain⟨w',hw,rw'⟩:=RelO.some_of (v:=v) (o:=(atKey xs k).map (·.2)) (by rw[l];exact rel.val k);obtain⟨p,hp,hp2⟩:=Option.map_eq_some_iff.mp hw;refine wpAny_getItem_heap (tupleKind_room_in1 hu) (zhd I.hok eb) dd hp ?_;rw[hp2];exact h w' _ (I.tok _) rw'
theorem yhD{t':Nat}(I:Inv X pins σ H s)(mu:Mut (H a))(hs:Heap.SameBut a s.heap h')(he:∃q,h'.get? a=some q)(new:za5 X.prog X.w (upd H a ob) h' a ob) :
  Inv X pins σ (upd H a ob) { s with heap:=h',toks:=t' } :=
 I.write (x:=a) (e:=a) mu (.inl rfl) (λb q hb z=>(hs.2 b hb).trans z) he new
theorem zir{kvs:List (Key×V)}{vs:List (Key×Value)}(z:kvs.length<=sizeLine)(hd:(a==sysModules)=false)(rel:KV kvs vs)(dd:h'.DictOf (zaA P w) a vs) :
  za5 P w H' h' a (.dK kvs):=⟨z,hd,vs,rel,dd⟩
end
def NoSl(i:Expr):Prop:=∀ov iv,subscripted i false ov iv=operate [ov,iv] (getItem ov iv)
theorem yhg{T id:String}
  (hl:typeLookup (.type T) "__getitem__"=pure (some (.builtin id))) (hs:NoSl slice)
  (h:wpAny (model prog w) A (eval value env) (λo s₁=>wpAny (model prog w) A (eval slice env) (λi s₂=>s₂.TypeIs o T/\wpAny (model prog w) A (getItem o i) Q E s₂) E s₁) E s) :
  wpAny (model prog w) A (eval (.Subscript value slice pos) env) Q E s:=by
 refine Subscript_ (wpAny_mono h (λo s₁ h₁=>wpAny_mono h₁ (λi s₂ h₂=>?_) λ_ _ x=>x) λ_ _ x=>x);obtain⟨hT,h₂⟩:=h₂;unfold subscriptTail;refine wpAny_bind ?_;rw[getitemInPython_of_ne hT.not_modules];refine wpAny_bind (wpAny_specialOf hT hl ?_);have fin:wpAny (model prog w) A (subscripted slice false o i) (λr s₃=>wpAny (model prog w) A (letTemporaryGo value o r >>= λ_=>pure r) Q E s₃) E s₂:=by
  rw[hs o i];exact wpAny_operating (wpAny_mono h₂ (λr s₃ h₃=>wpAny_bind (wpAny_letTemporaryGo (wpAny_pure h₃))) λ_ _ x=>x)
 first
  |exact wpAny_pure (wpAny_bind fin)
  |exact wpAny_bind (wpAny_pure (wpAny_bind fin))
  |exact wpAny_bind fin
theorem yeA{o:Option V}(I:Inv X pins σ H s)(g:DGet H a y o):s.TypeIs (.ref a) "dict":=by
 rcases g with⟨kvs,k,e,_,_⟩ |⟨kvs,k,b,e,_,_,_⟩
 ·obtain⟨_,_,vs,_,dd⟩:=yhy I.hok e;exact dd.typeIs
 ·obtain⟨_,_,xs,_,dd⟩:=yin I.hok e;exact dd.typeIs
def ziL(td ty:TE):TE:=λσ H Q=>td σ H λx H1=>ty σ H1 λy H2=>Ex2 λa v=>x = .ref a/\DGet H2 a y (some v)/\Q v H2
section
variable {X:Cx} {o i e value:Expr} {pos pos' tpos:Pos} {td ty tv:TE}
theorem zhz(hu:X.A.units+1<cLine)(ho:PE X o td)(hi:PE X i ty)(hs:NoSl i):PE X (.Subscript o i pos) (ziL td ty):=by
 intro pins s σ H Q I h;refine yhg PySem.F.slot_dict_getitem.lookup hs (thn (ho pins s σ H _ I h) λu s1 ⟨x,H1,I1,rx,q1⟩=>thn (hi pins s1 σ H1 _ I1 q1) λiv s2 hq=>?_);obtain⟨y,H2,I2,ry,a,v,ex,g,q2⟩:=hq;subst ex;obtain rfl:u=Value.ref a:=rx;exact⟨yeA I2 g,zfu hu I2 g ry λw' s3 I3 rw'=>⟨v,H2,I3,rw',q2⟩⟩
end
theorem ygI(h:Heap)(hb:sysModules<h.objs.size):za5 P w H (h.push { cls:=.type "dict",data:=.dict #[] }) h.objs.size (.dK []) :=
 ⟨Nat.zero_le _,beq_eq_false_iff_ne.mpr (Ne.symm (Nat.ne_of_lt hb)),[],.nil,Heap.DictOf.new h⟩
noncomputable def ygf:List (TE×TE)->St->Hp->(List (V×V)->Hp->Prop)->Prop
 | [],_,H,Q=>Q [] H
 |(tk,tv)::r,σ,H,Q=>tk σ H λx H1=>tv σ H1 λy H2=>ygf r σ H2 λps H3=>Q ((x,y)::ps) H3
abbrev VV:List (V×V)->List (Value×Value)->Prop:=Paired λp q=>RelV p.1 q.1/\RelV p.2 q.2
noncomputable def PPs(X:Cx)(pos:Pos)(keys:List (Option Expr))(values:List Expr)(trs:List (TE×TE)):Prop :=
 ∀(pins:List (Addr×Obj)) (s:Shared) (σ:St) (H:Hp) (Q:List (V×V)->Hp->Prop),Inv X pins σ H s->ygf trs σ H Q->
  wpAny (model X.prog X.w) X.A (evalPairs (pairTrees keys values X.env pos)) (λvs s'=>Ex2 λps H'=>Inv X pins σ H' s'/\VV ps vs/\Q ps H') X.xe s
theorem zhk:PPs X pos [] [] []:=λpins s σ H Q I h=>pairTrees_nil_walk ⟨[],H,I,.nil,h⟩
theorem zbG{X:Cx}{pos:Pos}{k v:Expr}{ks:List (Option Expr)}{vs:List Expr}{tk tv:TE}{trs:List (TE×TE)}(hk:PE X k tk)(hv:PE X v tv)(hr:PPs X pos ks vs trs) :
  PPs X pos (some k::ks) (v::vs) ((tk,tv)::trs):=λpins s σ H Q I h=>
 pairTrees_cons_walk (thn (hk pins s σ H _ I h) λu s1 ⟨x,H1,I1,rx,q1⟩=>thn (hv pins s1 σ H1 _ I1 q1) λw2 s2 ⟨y,H2,I2,ry,q2⟩=>
  thn (hr pins s2 σ H2 _ I2 q2) λws s3 ⟨ps,H3,I3,rel,q3⟩=>⟨(x,y)::ps,H3,I3,.cons ⟨rx,ry⟩ rel,q3⟩)
def ydd(kvs more:List (Key×V)):List (Key×V):=more.foldl (λacc kv=>putK acc kv.1 kv.2) kvs
theorem KV.merge:∀ {more:List (Key×V)} {rs:List (Key×Value)} {kvs:List (Key×V)} {vs:List (Key×Value)},KV more rs->KV kvs vs->KV (ydd kvs more) (merged vs rs):=by
 intro more rs kvs vs r;unfold KV at r
 induction r generalizing kvs vs with
 |nil=>intro q;exact q
 |@cons p q ps qs h t ih=>
  intro r0;have e:KV (putK kvs p.1 p.2) (stored vs q.1 q.2):=by
   have:=r0.put p.1 h.2;rw[<-h.1];exact this
  exact ih e
theorem ycc:∀(more kvs:List (Key×V)),(ydd kvs more).length<=kvs.length+more.length
 | [],kvs=>by show kvs.length<=kvs.length+0;lia
 |p::r,kvs=>by
  have h1:=ycc r (putK kvs p.1 p.2);have h2:=yeD kvs p.1 p.2;show(ydd (putK kvs p.1 p.2) r).length<=_;rw[List.length_cons];lia
theorem zdg{P:Program}{w:World}:∀ {kvs:List (Key×V)} {ws:List (Value×Value)},VV (kvs.map λkv=>(kV kv.1,kv.2)) ws->∃rs,Carries (zaA P w) ws rs/\KV kvs rs
 | [],_,r=>by rw[List.map_nil]at r;cases r;exact⟨[],True.intro,.nil⟩
 |p::kvs,_,r=>by
  rw[List.map_cons]at r;cases r with
  |@cons a b as bs h t=>
   obtain⟨rs,c,q⟩:=zdg (P:=P) (w:=w) t;obtain⟨b1,b2⟩:=b;exact⟨(p.1,b2)::rs,⟨ygW h.1,rfl,c⟩,.cons ⟨rfl,h.2⟩ q⟩
noncomputable def yiB(trs:List (TE×TE)):TE:=λσ H Q=>∀p,H p=none->ygf trs σ (upd H p (.dK [])) λps H2=>H2 p=some (.dK [])/\∃kvs:List (Key×V),ps=kvs.map (λkv=>(kV kv.1,kv.2))/\kvs.length<=15/\Q (.ref p) (upd H2 p (.dK (ydd [] kvs)))
theorem zhN{X:Cx}{pos:Pos}{keys:List (Option Expr)}{values:List Expr}{trs:List (TE×TE)}(h:PPs X pos keys values trs)(hall:keys.all (·.isSome)=true)(hl:keys.length=values.length)(h0:keys≠[])
  (h15:keys.length<=15):PE X (.Dict keys values pos) (yiB trs):=by
 intro pins s σ H Q I q;have hn:=I.hok.fresh (Nat.le_refl s.heap.objs.size);have I1:=I.laid (a:=s.heap.objs.size) (o:=.dK []) (h':=s.heap.push { cls:=.type "dict",data:=.dict #[] }) (t':=s.toks) (λ_ _ q=>Heap.get?_push_of_some _ q) (Nat.le_refl _) (ygI s.heap I.big);refine wpAny_Dict_walk (knd:=zaA X.prog X.w) hall hl h0 h15 (thn (h pins _ σ _ _ I1 (q _ hn)) λws s2 hq=>?_);obtain⟨ps,H2,I2,rel,e,kvs,ep,lk,q2⟩:=hq;subst ep;obtain⟨rs,c,rk⟩:=zdg (P:=X.prog) (w:=X.w) rel;obtain⟨z,hd,vs0,r0,dd⟩:=ziH I2.hok e;cases r0;refine⟨rs,c,dd,λh' dd' hs=>⟨.ref s.heap.objs.size,_,?_,rfl,q2⟩⟩;have hz:(ydd [] kvs).length<=sizeLine:=by
  have h1:=ycc kvs [];rw[List.length_nil]at h1;rw[sizeLine_eq];lia
 have he:∃q,h'.get? s.heap.objs.size=some q:=let ⟨q,_,_,hq,_⟩:=dd';⟨q,hq⟩;exact yhD I2 (by rw[e];exact True.intro) hs he (zir hz hd (rk.merge .nil) dd')
structure M1(X:Cx)(o:Expr)(m:Str)(apos:Pos)(e:Expr)(cpos:Pos):Prop where
 base:attributeBase o m X.env (eval o X.env)=eval o X.env
 few:((backTo cpos (starEach [e] X.env)).all (λx=>!x.1)&&(backToKw cpos (keywordEach [] X.env)).all (λx=>x.1.isSome)
  && decide (([e]:List Expr).length+([]:List Keyword).length+(if ([]:List Keyword).isEmpty then 0 else 1)<30))=true
 line:(apos.endLine==cpos.line)=true
 trees:backTo cpos (starEach [e] X.env)=[(false,eval e X.env)]
structure M2(X:Cx)(o:Expr)(m:Str)(apos:Pos)(e f:Expr)(cpos:Pos):Prop where
 base:attributeBase o m X.env (eval o X.env)=eval o X.env
 few:((backTo cpos (starEach [e,f] X.env)).all (λx=>!x.1)&&(backToKw cpos (keywordEach [] X.env)).all (λx=>x.1.isSome)
  && decide (([e,f]:List Expr).length+([]:List Keyword).length+(if ([]:List Keyword).isEmpty then 0 else 1)<30))=true
 line:(apos.endLine==cpos.line)=true
 trees:backTo cpos (starEach [e,f] X.env)=[(false,eval e X.env),(false,eval f X.env)]
end L2
namespace L2
open PySem PySem.Spec PyProof.Rows
end L2
namespace L2
open PySem PySem.Spec PyProof.Rows
end L2
end
section
namespace L2
open PySem PySem.Spec PyProof.Rows
section
variable {prog:Program} {w:World} {A:Around} {R:Result->Shared->Prop} {s:Shared}
theorem zey(I:Nat->Shared->Prop)
  (turn:∀n s,I n s->wpAny (model prog w) A (pyNext it) (λr s₁=>match r with
   |none=>R (.ok .next) s₁
   |some v=>wpAny (model prog w) A (letOwnedTupleGo target it v) (λ_ s₁'=>wpAny (model prog w) A (assign target env v) (λ_ s₂=>
     wpAny (model prog w) A (forIn ifs true λc r=>if r=true then do let ok <-isTrue c env (eval c env);pure (ForInStep.yield ok) else pure (ForInStep.yield r)) (λok s₃=>
      if ok=true then wpAny (model prog w) A (eval elt env) (λx s₄=>
       wpAny (model prog w) A (call (.builtin "list.append") [acc,x]) (λ_ s₅=>∃m,m<n/\I m s₅) (λ_ _=>False) s₄) (λ_ _=>False) s₃
      else ∃m,m<n/\I m s₃) (λ_ _=>False) s₂) (λ_ _=>False) s₁') (λ_ _=>False) s₁) (λ_ _=>False) s)
  (n:Nat) (h:I n s):codeAny (model prog w) A (.compLoop (.ListComp elt [⟨target,iter,ifs,0⟩] scope pos) 0 it acc env) R s:=by
 refine codeAny_loop rfl I (λn s hI=>?_) n h;show wpAny _ A ((compTurn (.ListComp elt [⟨target,iter,ifs,0⟩] scope pos) 0 it acc env).onRaise (λx=>do noteFrame x env;theTreesLotGoes x)) _ _ s;refine wpAny_noted (wpAny_noRaise ?_);rw[compTurn_list];refine wpAny_bind (wpAny_standAt (wpAny_bind (wpAny_mono (turn n s hI) (λr s₁ h₁=>?_) λ_ _ h'=>h')));cases r with
 |none=>exact wpAny_pure h₁
 |some v=>
  refine wpAny_bind (wpAny_mono h₁ (λ_ s₁' h₁'=>?_) λ_ _ h'=>h');refine wpAny_bind (wpAny_mono h₁' (λ_ s₂ h₂=>wpAny_bind (wpAny_mono h₂ (λok s₃ h₃=>?_) λ_ _ h'=>h')) λ_ _ h'=>h');cases ok with
  |false=>exact wpAny_pure ⟨rfl,h₃⟩
  |true=>
   exact wpAny_bind (wpAny_bind (wpAny_mono h₃ (λx s₄ h₄=>wpAny_bind (wpAny_mono h₄ (λ_ s₅ h₅=>wpAny_pure (wpAny_pure ⟨rfl,h₅⟩)) λ_ _ h'=>h')) λ_ _ h'=>h'))
end
theorem yaJ{α:Type}{k:α}:∀ {l:List (Str×α)},l.lookup x=some k->(x,k)∈l:=λh=>PySem.mem_of_lookup h
theorem za4{scope:Scope}{env:Env}(h:∀x∈scope.names,x.2 = .free->∃c,env.cells.lookup x.1=some c) :
  ∃cl,closureFor scope env=pure cl/\(∀n c,cl.lookup n=some c->env.cells.lookup n=some c)/\(∀n,(n,NameKind.free)∈scope.names->∃c,cl.lookup n=some c):=by
 have aux:∀(names:List (Str×NameKind)) (cs:List (Str×Addr)),(∀x∈names,x.2 = .free->∃c,env.cells.lookup x.1=some c)->(∀n c,cs.lookup n=some c->env.cells.lookup n=some c)->
   ∃cl,(forIn names cs λx r=>if (x.2==NameKind.free)=true then do let a <-cellOf env x.1;pure (ForInStep.yield ((x.1,a)::r)) else pure (ForInStep.yield r):Sem (List (Str×Addr)))=pure cl/\
    (∀n c,cl.lookup n=some c->env.cells.lookup n=some c)/\(∀n,((n,NameKind.free)∈names\/∃c,cs.lookup n=some c)->∃c,cl.lookup n=some c):=by
  intro names
  induction names with
  |nil=>intro cs _ hc;exact⟨cs,rfl,hc,λn h=>h.elim (λz=>nomatch z) id⟩
  |cons x r ih=>
   intro cs hx hc;obtain⟨n,k⟩:=x;have hr:∀x∈r,x.2 = .free->∃c,env.cells.lookup x.1=some c:=λy hy=>hx y (List.mem_cons_of_mem _ hy)
   by_cases hk:k = .free
   ·subst hk;obtain⟨c,e⟩:=hx (n,.free) List.mem_cons_self rfl;have hc':∀m d,List.lookup m ((n,c)::cs)=some d->env.cells.lookup m=some d:=λm d hm=>by
     rw[List.lookup_cons]at hm;cases hb:m==n with
     |true=>rw[hb]at hm;cases hm;rw[eq_of_beq hb];exact e
     |false=>rw[hb]at hm;exact hc m d hm
    obtain⟨cl,h1,h2,h3⟩:=ih ((n,c)::cs) hr hc';refine⟨cl,?_,h2,λm hm=>h3 m ?_⟩
    ·rw[List.forIn_cons];have e2:cellOf env n=pure c:=by unfold cellOf;rw[e]
     simp only[beq_self_eq_true,if_true,e2];exact h1
    ·rcases hm with hm |⟨d,hm⟩
     ·rcases List.mem_cons.mp hm with q|q
      ·cases q;exact .inr ⟨c,by rw[List.lookup_cons,beq_self_eq_true]⟩
      ·exact .inl q
     ·refine .inr ?_;rw[List.lookup_cons];cases hb:m==n with
      |true=>exact⟨c,rfl⟩
      |false=>exact⟨d,hm⟩
   ·obtain⟨cl,h1,h2,h3⟩:=ih cs hr hc;refine⟨cl,?_,h2,λm hm=>h3 m ?_⟩
    ·rw[List.forIn_cons];have:(k==NameKind.free)=false:=by simpa using hk
     simp only[this,Bool.false_eq_true,if_false];exact h1
    ·rcases hm with hm|hm
     ·rcases List.mem_cons.mp hm with q|q
      ·cases q;exact absurd rfl hk
      ·exact .inl q
     ·exact .inr hm
 obtain⟨cl,h1,h2,h3⟩:=aux scope.names [] h (λn c z=>by simp at z);refine⟨cl,?_,h2,λn hn=>h3 n (.inl hn)⟩;simp only[closureFor];rw[h1];rfl
theorem zaH{env:Env}:∀ {names:List (Str×NameKind)} {x:Str} {k:NameKind},
  (names.map λ(n,k)=>if (k==NameKind.free&&env.scope.kind==.function&&env.kindOf n==some .cell) then(n,NameKind.cell) else(n,k)).lookup x=some k->(k = .cell\/k = .free)->
  names.lookup x=some .free\/names.lookup x=some .cell
 | [],_,_,h,_=>by simp at h
 |(n,q)::r,x,k,h,hk=>by
  have ih:=@zaH env r x k;rw[List.map_cons,List.lookup_cons]at h;rw[List.lookup_cons];by_cases hc:(q==NameKind.free&&env.scope.kind==.function&&env.kindOf n==some .cell)=true
  ·simp only[if_pos hc]at h;cases hx:x==n with
   |true=>
    have:q = .free:=by
     have:=(Bool.and_eq_true_iff.mp (Bool.and_eq_true_iff.mp hc).1).1;exact eq_of_beq this
    simp[this]
   |false=>rw[hx]at h;exact ih h hk
  ·simp only[if_neg hc]at h;cases hx:x==n with
   |true=>
    rw[hx]at h;cases h;rcases hk with rfl|rfl
    ·exact .inr rfl
    ·exact .inl rfl
   |false=>rw[hx]at h;exact ih h hk
theorem zbx{env:Env}:∀ {names:List (Str×NameKind)} {x:Str},names.lookup x=some .free->
  (names.map λ(n,k)=>if (k==NameKind.free&&env.scope.kind==.function&&env.kindOf n==some .cell) then(n,NameKind.cell) else(n,k)).lookup x=some .cell\/
  (names.map λ(n,k)=>if (k==NameKind.free&&env.scope.kind==.function&&env.kindOf n==some .cell) then(n,NameKind.cell) else(n,k)).lookup x=some .free
 | [],_,h=>by simp at h
 |(n,q)::r,x,h=>by
  have ih:=@zbx env r x;rw[List.map_cons,List.lookup_cons];rw[List.lookup_cons]at h;by_cases hc:(q==NameKind.free&&env.scope.kind==.function&&env.kindOf n==some .cell)=true
  ·simp only[if_pos hc];cases hx:x==n with
   |true=>exact .inl rfl
   |false=>rw[hx]at h;exact ih h
  ·simp only[if_neg hc];cases hx:x==n with
   |true=>rw[hx]at h;cases h;exact .inr rfl
   |false=>rw[hx]at h;exact ih h
noncomputable def cxC(X:Cx)(N:List Str)(scope:Scope)(cl:List (Str×Addr))(C:Addr)(fp:List Addr)(s:Shared)(H:Hp):Cx :=
 { prog:=X.prog,w:=X.w,K:=X.K,mg:=X.mg,base:=X.base,A:=X.A,N:=N,s₀:=s,H₀:=H,env:=compEnvC scope cl C X.env,outer:=X.stack,stack:=X.stack,ex:=fp,fn:=λ_=>false,calm:=X.calm,pn:=[],xe:=λ_ _=>False }
structure CSc(M:List Str)(sc:Scope)(tg cp:List Str)(ci:List Nat)(scope:Scope):Prop where
 kind:scope.kind = .function
 nocell:∀x∈scope.names,x.2≠.cell
 loc:∀x∈scope.names,x.2 = .local->scope.names.lookup x.1=some .local
 free:∀x∈scope.names,x.2 = .free->sc.names.lookup x.1=some .cell\/sc.names.lookup x.1=some .free
 cap:∀x∈cp,scope.names.lookup x=some .free
 at_:ci.map (M[·]?)=cp.map some
 nd:(tg++cp).Nodup
def capσ(k:Nat)(ci:List Nat)(σ:St):St:=List.replicate k none++ci.map λi=>(σ[i]?).join
abbrev ygC:=Nat->Nat->List V->Hp->Prop
noncomputable def zhW(wi:TI)(k:Nat)(ci:List Nat)(g:TG)(ti:TT)(te:TE):TE:=λσ H Q=>wi σ H λJ H1=>∃W:ygC,(∃m,W 0 m [] H1)/\∀i m acc H,W i m acc H->
 (J.stop i H/\∀D,H D=none->Q (.ref D) (upd H D (.lst acc)))\/
 (J.go i H/\acc.length<sizeLine/\∃N:List V->Hp->Prop,(∀acc' H',N acc' H'->∃m',m'<m/\W (i+1) m' acc' H')/\∀x H',J.yld i H x H'->g x (capσ k ci σ) H' λσ2 H2=>ti σ2 H2 λb H3=>if b=true then te σ2 H3 λv H4=>N (acc++[v]) H4 else N acc H3)
noncomputable def PIfs(X:Cx)(ifs:List Expr)(t:TT):Prop :=
 ∀(pins:List (Addr×Obj)) (s:Shared) (σ:St) (H:Hp) (Q:Bool->Hp->Prop),Inv X pins σ H s->t σ H Q->
  wpAny (model X.prog X.w) X.A (forIn ifs true λc r=>if r=true then do let ok <-isTrue c X.env (eval c X.env);pure (ForInStep.yield ok) else pure (ForInStep.yield r)) (TP X pins σ Q) X.xe s
def yiK:TT:=λ_ H Q=>Q true H
theorem zau:PIfs X [] yiK:=λpins s σ H Q I h=>wpAny_tests_nil ⟨H,I,h⟩
theorem ycr{X:Cx}{c:Expr}{t:TT}(h:PT X c t):PIfs X [c] t:=λpins s σ H Q I hq=>wpAny_tests_one (h pins s σ H Q I hq)
section
variable {X:Cx}
structure Gone(X:Cx)(pins:List (Addr×Obj))(H:Hp)(s:Shared)(C:Addr):Prop where
 ns:∃m,s.heap.Ns C m
 free:H C=none
 ne:C≠X.env.locals
 ab:X.s₀.heap.objs.size<=C
 cells:∀x c,X.env.cells.lookup x=some c->c≠C
 pins:∀p∈X.pn++pins,p.1≠C
 nofs:C∉X.fs
theorem zeU{ci:List Nat} {cl:List (Str×Addr)}
  (S:CSc X.N X.env.scope tg cp ci scope) (hcalm:X.calm=true) (hi:PI X target iter wi)
  (hcl1:∀n c,cl.lookup n=some c->X.env.cells.lookup n=some c) (hcl2:∀n,(n,NameKind.free)∈scope.names->∃c,cl.lookup n=some c)
  (hg:∀C fp s H,PG (cxC X (tg++cp) scope cl C fp s H) target g) (ht:∀C fp s H,PIfs (cxC X (tg++cp) scope cl C fp s H) ifs ti) (he:∀C fp s H,PE (cxC X (tg++cp) scope cl C fp s H) elt te)
  (I:Inv X pins σ H s) (h:zhW wi tg.length ci g ti te σ H Q) :
  wpAny (model X.prog X.w) X.A (eval iter X.env) (λx s₁=>wpAny (model X.prog X.w) X.A (pyIter x) (λit s₂=>wpAny (model X.prog X.w) X.A (newList []) (λacc s₃=>
   wpAny (model X.prog X.w) X.A (newFunctionEnv scope X.env.globals cl [] X.env.qual none .none (some X.env)) (λcenv s₄=>
    codeAny (model X.prog X.w) X.A (.compStart (.ListComp elt [⟨target,iter,ifs,0⟩] scope pos) 0 it acc { cenv with scope:=relabel scope X.env })
     (λr s'=>Ex3 λD vs H'=>acc = .ref D/\r = .ok .next/\Inv X pins σ (upd H' D (.lst vs)) s'/\H' D=none/\Gone X pins (upd H' D (.lst vs)) s' cenv.locals/\∀D',H' D'=none->Q (.ref D') (upd H' D' (.lst vs))) s₄) X.xe s₃) X.xe s₂) X.xe s₁) X.xe s:=by
 refine thn (hi pins s σ H _ I h) λv s1 h1=>thn h1 λitv s2 h2=>?_
 obtain⟨it,fp,tn,J,H2,e,I2,T,st2,f2,W,⟨m0,w0⟩,turn⟩:=h2;subst e;refine wpAny_newObj_type (wpAny_newFunctionEnv S.nocell (by intro y hy;simp at hy) (λh₁ hns₁ hsb₁=>?_) S.kind);dsimp only at hns₁ hsb₁ ⊢;generalize hHL:s2.heap.push { cls:=.type "list",dict:=none,data:=.seq ([]:List Value).toArray }=HL at hns₁ hsb₁ ⊢;have hC:HL.objs.size=s2.heap.objs.size+1:=by rw[<-hHL,Heap.size_push]
 generalize hD:s2.heap.objs.size=D at hC ⊢;generalize hCC:HL.objs.size=C at hns₁ hsb₁ hC ⊢;have hDC:D≠C:=by lia
 have old:∀b o,s2.heap.get? b=some o->h₁.get? b=some o:=λb o e=>by
  have lt:s2.heap.objs.size>=Nat.succ b:=Heap.lt_size e;refine hsb₁.extBut b o (show @Ne Nat b C by lia) (Heap.get?_push_of_some _ (hHL ▸ Heap.get?_push_of_some _ e))
 have hD1:h₁.get? D=some { cls:=.type "list",data:=.seq ([]:List Value).toArray 0 }:=by
  refine hsb₁.extBut D _ hDC (Heap.get?_push_of_some _ ?_);rw[<-hHL,<-hD];exact Heap.get?_push_size _ rfl
 have fD:H2 D=none:=I2.hok.fresh (by lia);have fC:H2 C=none:=I2.hok.fresh (by lia)
 let X':Cx:=cxC X (tg++cp) scope cl C fp s2 H2
 have ok':X'.Ok:=by
  refine⟨I2.ok.mod,?_,I2.ok.glob,I2.ok.blt,?_,?_,?_,?_,I2.ok.hd,I2.ok.frames,.inl rfl,?_,I2.bs,Nat.le_trans I2.ok.bsz I2.sz,?_,?_,I2.stack,I2.stkFree⟩
  ·exact S.kind
  ·show s2.heap.objs.size<=C;lia
  ·intro x y c hx hy;exact I2.ok.inj x y c (hcl1 x c hx) (hcl1 y c hy)
  ·intro x hx;have hx':(relabel scope X.env).names.lookup x=some .cell\/(relabel scope X.env).names.lookup x=some .free:=hx;have q:scope.names.lookup x=some .free\/scope.names.lookup x=some .cell:=by
    rcases hx' with z|z
    ·exact zaH z (.inl rfl)
    ·exact zaH z (.inr rfl)
   rcases q with q|q
   ·exact hcl2 x (yaJ q)
   ·exact absurd rfl (S.nocell _ (yaJ q))
  ·intro x c hx;cases hx
  ·intro b hb;obtain⟨o,eo,_⟩:=T.obj _ _ st2 b hb;have lt:s2.heap.objs.size>=Nat.succ b:=Heap.lt_size eo;exact⟨by show @Ne Nat b C;lia,λx c hx=>(f2 b hb).2.2.2.2.1 x c (hcl1 x c hx)⟩
  ·intro b o e hb;rcases(f2 b hb).2.2.2.1 with z|z
   ·exact I2.ok.noex b o e z
   ·have l1:X.base.objs.size>=Nat.succ b:=Heap.lt_size e;have l2:X.base.objs.size<=X.s₀.heap.objs.size:=I2.ok.bsz;have l3:X.s₀.heap.objs.size<=(b:Nat):=z
    lia
  ·intro b hb hbs;rcases List.mem_cons.mp (I2.stkSub b hbs) with z|z
   ·exact(f2 b hb).2.1 z
   ·exact(f2 b hb).2.2.1 z
 have capLen:(capσ tg.length ci σ).length=X'.N.length:=by
  show(List.replicate tg.length none++ci.map λi=>(σ[i]?).join).length=(tg++cp).length;have:=congrArg List.length S.at_;simp only[List.length_map]at this;simp[this]
 have capLook:∀(h':Heap) (m':Str->Option Value),(∀x c o,X.env.cells.lookup x=some c->s2.heap.get? c=some o->∃sl,h'.get? c=some { o with slots:=sl })->
   ∀(i:Nat) (x:Str) (v:V),X'.N[i]?=some x->(capσ tg.length ci σ)[i]?=some (some v)->Vis X'.env.scope x->∃u,RelV v u/\Look X'.env h' m' x u:=by
  intro h' m' hcell i x v e1 e2 e3;have e1':(tg++cp)[i]?=some x:=e1;have e2':(List.replicate tg.length none++ci.map λi=>(σ[i]?).join)[i]?=some (some v):=e2;by_cases hi':i<tg.length
  ·rw[List.getElem?_append_left (by simpa using hi'),List.getElem?_replicate]at e2';split at e2' <;> cases e2'
  ·rw[List.getElem?_append_right (by simpa using hi'),List.length_replicate,List.getElem?_map]at e2';rw[List.getElem?_append_right (by lia)]at e1';cases hj:ci[i-tg.length]? with
   |none=>rw[hj]at e2';cases e2'
   |some j=>
    rw[hj]at e2';have e2'':(σ[j]?).join=some v:=Option.some.inj e2';have e4:σ[j]?=some (some v):=by
     cases q:σ[j]? with
     |none=>rw[q]at e2'';cases e2''
     |some z=>rw[q]at e2'';exact congrArg some e2''
    have e5:X.N[j]?=some x:=by
     have:=congrArg (·[i-tg.length]?) S.at_;simp only[List.getElem?_map,hj,e1',Option.map_some]at this;exact Option.some.inj this
    have hx:scope.names.lookup x=some .free:=S.cap x (List.mem_of_getElem? e1');have hk:=S.free (x,.free) (yaJ hx) rfl;obtain⟨m,hn,hl⟩:=I2.loc;obtain⟨u,r,l⟩:=hl j x v e5 e4 (.inr hk);refine⟨u,r,.inr ⟨?_,?_⟩⟩
    ·exact zbx hx
    ·rcases l with⟨k1,_⟩ |⟨_,c,k2,k3⟩
     ·have k1':X.env.scope.names.lookup x=some .local:=k1;rcases hk with z|z <;> (rw[z]at k1';cases k1')
     ·obtain⟨c',hc'⟩:=hcl2 x (yaJ hx);have:=hcl1 x c' hc';rw[k2]at this;cases this;obtain⟨o,ho,hd⟩:=k3;obtain⟨sl,q⟩:=hcell x c o k2 ho;exact⟨c,hc',_,q,hd⟩
 have I':∀tk,Inv X' [] (capσ tg.length ci σ) H2 { s2 with heap:=h₁,toks:=tk }:=λtk=>by
  refine⟨ok',rfl,I2.bare,Un.kept old,⟨_,hns₁,capLook _ _ λx c o _ e=>⟨o.slots,old c o e⟩⟩,λx c hx=>?_,fC,λx c hx=>I2.freeC x c (hcl1 x c hx),λp hp=>absurd (show p∈([]:List (Addr×Obj)) from hp) (by simp),I2.hok.kept old,?_⟩
  ·obtain⟨v,o,ho,hd⟩:=I2.cell x c (hcl1 x c hx);exact⟨v,o,old c o ho,hd⟩
  ·exact capLen
 have recap:∀ {pl pl':List (Addr×Obj)} {σ':St} {H':Hp} {s':Shared},Inv X' (pl++pl') σ' H' s'->Inv X' pl (capσ tg.length ci σ) H' s':=λ{pl pl' σ' H' s'} J=>by
  obtain⟨m,hn,_⟩:=J.loc;have u:Un (frs X.stack) fp H2 H' s2.heap s'.heap:=J.base;exact⟨J.ok,J.os,J.bare,J.base,⟨m,hn,capLook _ _ λx c o hx e=>u.any e (I2.freeC x c hx) λhb=>(f2 c hb).2.2.2.2.1 x c hx rfl⟩,J.cell,J.free,J.freeC,
   λp hp=>(List.mem_append.mp hp).elim (λz=>J.pin p (List.mem_append_left _ z)) (λz=>J.pin p (List.mem_append_right _ (List.mem_append_left _ z))),J.hok,capLen⟩
 have stat:∀ {H':Hp},(∀b∈fp,H' b=none)->∀b∈fp,FpOk X' [] H' b:=λhn b hb=>by
  obtain⟨o,eo,_⟩:=T.obj _ _ st2 b hb;have lt:s2.heap.objs.size>=Nat.succ b:=Heap.lt_size eo;exact⟨hn b hb,by show @Ne Nat b C;lia,ok'.exfs b hb,.inl hb,(ok'.exf b hb).2,λp hp=>absurd (show p∈([]:List (Addr×Obj)) from hp) (by simp)⟩
 have hDfp:D∉fp:=λhb=>by obtain⟨o,eo,_⟩:=T.obj _ _ st2 D hb;have lt:s2.heap.objs.size>=Nat.succ D:=Heap.lt_size eo;lia
 have hDcell:∀x c,X'.env.cells.lookup x=some c->c≠D:=λx c hx=>by
  obtain⟨v,o,ho,hd⟩:=I2.cell x c (hcl1 x c hx);have lt:s2.heap.objs.size>=Nat.succ c:=Heap.lt_size ho;intro z;have z':@Eq Nat c D:=z;lia
 have hDfs:D∉X'.fs:=λhb=>by
  have:D∈X.env.locals::X.fs:=I2.stkSub D hb;rcases List.mem_cons.mp this with z|z
  ·have l1:s2.heap.objs.size>=Nat.succ X.env.locals:=I2.lt;have z':@Eq Nat D X.env.locals:=z
   lia
  ·exact I2.nofs (show s2.heap.objs.size<=D by lia) z
 have fin:∀ {pl:List (Addr×Obj)} {σ':St} {H':Hp} {s':Shared} {vs:List V} {us:List Value} {k:Nat},Inv X' pl σ' H' s'->H' D=none->s'.heap.get? D=some { cls:=.type "list",data:=.seq us.toArray k }->Vals vs us->vs.length<=sizeLine->
   (∀D',H' D'=none->Q (.ref D') (upd H' D' (.lst vs)))->
   Ex3 λD' vs H'=>Value.ref D = .ref D'/\(Except.ok Flow.next:Result) = .ok .next/\Inv X pins σ (upd H' D' (.lst vs)) s'/\H' D'=none/\Gone X pins (upd H' D' (.lst vs)) s' C/\∀D',H' D'=none->Q (.ref D') (upd H' D' (.lst vs)):=by
  intro pl σ' H' s' vs us k J f e r z q;have u:Un (frs X.stack) fp H2 H' s2.heap s'.heap:=J.base;have lt:∀ {b:Addr} {o:Obj},s2.heap.get? b=some o->b≠D:=λ{b o} eb zb=>by
   have l1:s2.heap.objs.size>=Nat.succ b:=Heap.lt_size eb;have l2:@Eq Nat b D:=zb
   lia
  have u2:Un (frs X.stack) fp H2 (upd H' D (.lst vs)) s2.heap s'.heap :=
   ⟨u.keep,u.slot,λb o eb n hx=>by rw[zad (lt eb)];exact u.free b o eb n hx,u.there,
    λb xs eb=>by rw[zad (yac eb fD)];exact u.tups b xs eb,λb o uu eb=>by rw[zad (yac eb fD)];exact u.frzs b o uu eb,λb ps eb=>by rw[zad (yac eb fD)];exact u.tbls b ps eb⟩
  have hok2:HOk X.prog X.w (upd H' D (.lst vs)) s'.heap:=λb o eb=>by
   by_cases hb:b=D
   ·subst hb;rw[zaa]at eb;cases eb;exact⟨z,us,k,r,e⟩
   ·rw[zad hb]at eb;refine(J.hok b o eb).stay (λ_ _ _ q=>q) (λc hc=>?_) λc xs hc=>?_
    ·rw[zad (λzz=>by rw[zz,f]at hc;cases hc)];exact hc
    ·rw[zad (λzz=>by rw[zz,f]at hc;cases hc)];exact hc
  refine⟨D,vs,H',rfl,rfl,I2.call' (ch:=fp) J.os u2 hok2 J.bare ?_,f,⟨?_,?_,?_,?_,?_,?_,?_⟩,q⟩
  ·intro b hb;obtain⟨_,a2,_,a4,a5,a6⟩:=f2 b hb;exact⟨a4,a2,a5,a6⟩
  ·obtain⟨m,hn,_⟩:=J.loc;exact⟨m,hn⟩
  ·rw[zad (Ne.symm hDC)];exact J.free
  ·have l1:s2.heap.objs.size>=Nat.succ X.env.locals:=I2.lt;intro zz;have zz':@Eq Nat C X.env.locals:=zz;lia
  ·have l1:X.s₀.heap.objs.size<=s2.heap.objs.size:=I2.sz;show X.s₀.heap.objs.size<=C;lia
  ·intro x c hx zz;obtain⟨v,o,ho,hd⟩:=I2.cell x c hx;have l1:s2.heap.objs.size>=Nat.succ c:=Heap.lt_size ho;have zz':@Eq Nat c C:=zz
   lia
  ·intro p hp zz;have l1:s2.heap.objs.size>=Nat.succ p.1:=Heap.lt_size (I2.pin p hp).1;have zz':@Eq Nat p.1 C:=zz
   lia
  ·exact I2.nofs (show s2.heap.objs.size<=C by lia)
 have loop:∀tk,codeAny (model X.prog X.w) X.A (.compLoop (.ListComp elt [⟨target,iter,ifs,0⟩] scope pos) 0 (.ref it) (.ref D) (compEnvC scope cl C X.env))
   (λr s'=>Ex3 λD' vs H'=>Value.ref D = .ref D'/\r = .ok .next/\Inv X pins σ (upd H' D' (.lst vs)) s'/\H' D'=none/\Gone X pins (upd H' D' (.lst vs)) s' C/\∀D',H' D'=none->Q (.ref D') (upd H' D' (.lst vs))) { s2 with heap:=h₁,toks:=tk }:=by
  intro tk;refine zey (λn s'=>Ex5 λi vs us k H'=>Inv X' [] (capσ tg.length ci σ) H' s'/\tn i s'.heap/\(∀b∈fp,H' b=none)/\H' D=none/\s'.heap.get? D=some { cls:=.type "list",data:=.seq us.toArray k }/\Vals vs us/\vs.length<=sizeLine/\W i n vs H') ?_ m0
   ⟨0,[],[],0,H2,I' tk,T.keep _ _ _ st2 (λb hb o e=>old b o e),λb hb=>(f2 b hb).1,fD,hD1,.nil,Nat.zero_le _,w0⟩
  rintro n s3 ⟨i,vs,us,k,H3,I3,st3,fr3,fD3,hD3,rv3,z3,w3⟩
  let pD:List (Addr×Obj):=[(D,{ cls:=.type "list",data:=.seq us.toArray k })]
  have pinD:∀ {σ':St} {H':Hp} {s':Shared},Inv X' [] σ' H' s'->H' D=none->s'.heap.get? D=some { cls:=.type "list",data:=.seq us.toArray k }->Inv X' pD σ' H' s':=λ{σ' H' s'} J f e=>
   J.pins_of λp hp=>by
    have:p=(D,{ cls:=.type "list",data:=.seq us.toArray k }):=by simpa[pD]using hp
    subst this;exact⟨e,f,hDC,hDfs,λv z=>by cases z⟩
  have statD:∀ {H':Hp},(∀b∈fp,H' b=none)->∀b∈fp,FpOk X' pD H' b:=λhn b hb=>by
   obtain⟨a1,a2,a3,a4,a5,_⟩:=stat hn b hb;refine⟨a1,a2,a3,a4,a5,λp hp=>?_⟩;have:p=(D,{ cls:=.type "list",data:=.seq us.toArray k }):=by
    have hp':p∈([]:List (Addr×Obj))++pD:=hp
    simpa[pD]using hp'
   subst this
   exactλz=>hDfp (by rw[show D=b from z];exact hb)
  rcases turn i n vs H3 w3 with⟨stop,qn⟩ |⟨go,zl,N,hN,step⟩
  ·refine thn (T.done X' rfl rfl rfl hcalm i pD s3 _ H3 _ (pinD I3 fD3 hD3) (statD fr3) st3 stop) λr s4 hq=>?_
   obtain⟨hr,I4⟩:=hq;subst hr;have eD:s4.heap.get? D=some { cls:=.type "list",data:=.seq us.toArray k }:=(I4.pin (D,_) (by simp[pD])).1;exact fin I4 fD3 eD rv3 z3 qn
  ·refine thn (T.item X' rfl rfl rfl hcalm i pD s3 _ H3 _ (pinD I3 fD3 hD3) (statD fr3) st3 go) λr s4 hq=>?_
   obtain⟨u,hr,h4⟩:=hq;subst hr;refine thn h4 λ_ s5 hq=>?_
   obtain⟨x,H5,I5,r5,y5,st5,fr5⟩:=hq;have I5':=I5.pinned (statD fr5) (T.obj _ _ st5);refine thn (hg C fp s2 H2 _ s5 _ H5 x u _ I5' r5 (step x H5 y5)) λ_ s6 hq=>?_
   obtain⟨σ6,H6,I6,q6⟩:=hq;refine thn (ht C fp s2 H2 _ s6 σ6 H6 _ I6 q6) λb s7 hq=>?_
   obtain⟨H7,I7,q7⟩:=hq;have again:∀ {s8:Shared} {H8:Hp},Inv X' (pD++ycn fp s5.heap) σ6 H8 s8->Inv X' pD (capσ tg.length ci σ) H8 s8/\tn (i+1) s8.heap/\(∀b∈fp,H8 b=none)/\H8 D=none/\s8.heap.get? D=some { cls:=.type "list",data:=.seq us.toArray k }:=λ{s8 H8} I8=>by
    have e8:=I8.pin (D,_) (List.mem_append_right _ (List.mem_append_left _ (by simp[pD] <;> rfl)));refine⟨?_,T.keep _ _ _ st5 λb hb o e=>(I8.pin (b,o) (List.mem_append_right _ (List.mem_append_right _ (yaZ hb e)))).1,λb hb=>?_,e8.2.1,e8.1⟩
    ·exact recap I8
    ·obtain⟨o,e,d⟩:=T.obj _ _ st5 b hb;exact(I8.pin (b,o) (List.mem_append_right _ (List.mem_append_right _ (yaZ hb e)))).2.1
   cases b with
   |false=>
    obtain⟨m',hm,w7⟩:=hN _ _ q7;obtain⟨J,t7,f7,d7,e7⟩:=again I7;exact⟨m',hm,i+1,vs,us,k,H7,J.pins_of (λp hp=>nomatch hp),t7,f7,d7,e7,rv3,z3,w7⟩
   |true=>
    simp only[if_true]at q7 ⊢;refine thn (he C fp s2 H2 _ s7 σ6 H7 _ I7 q7) λy s8 hq=>?_
    obtain⟨yv,H8,I8,r8,q8⟩:=hq;obtain⟨m',hm,w8⟩:=hN _ _ q8;obtain⟨J,t8,f8,d8,e8⟩:=again I8;refine call_meets F.slot_list_append ⟨_,e8,rfl⟩ F.entry_list_append (F.args_list_append_2 _ _) (PySem.list_append D us.toArray k y (by rw[List.size_toArray,<-rv3.length];exact z3)) ⟨e8,?_⟩;have q:=PySem.IsL.update e8 (·.push y);have J0:Inv X' [] (capσ tg.length ci σ) H8 s8:=J.pins_of (λp hp=>nomatch hp);refine⟨m',hm,i+1,vs++[yv],us++[y],_,H8,J0.turned (it:=D) (t':=s8.toks) (λb o hb hu=>(Heap.get?_update_other s8.heap _ (Ne.symm hb)).trans hu) d8 hDC (.inr (by show s2.heap.objs.size<=D;lia)) hDcell (λp hp=>absurd (show p∈([]:List (Addr×Obj)) from hp) (by simp)),?_,f8,d8,by simpa using q,rv3.append (.cons r8 .nil),by simp;lia,w8⟩;exact T.keep _ _ _ t8 λb hb o hu=>(Heap.get?_update_other s8.heap _ (λz=>hDfp (by rw[z];exact hb))).trans hu
 exact codeAny_compStart_list (loop _) (T.self X.A 0 _ _ _ (T.keep _ _ _ st2 (λb hb o e=>old b o e)) (loop _))
theorem Gone.turned{pins:List (Addr×Obj)}{σ:St}{H:Hp}{s:Shared}{C:Addr}{h':Heap}(G:Gone X pins H s C)(I:Inv X pins σ H s)(hs:Heap.SameBut C s.heap h'):Inv X pins σ H { s with heap:=h' } :=
 I.turned (t':=s.toks) (λb o hb e=>hs.extBut b o hb e) G.free G.ne (.inr G.ab) G.cells G.pins
theorem zeM{elt target iter:Expr}{ifs:List Expr}{scope:Scope}{pos:Pos}{tg cp:List Str}{ci:List Nat}{wi:TI}{g:TG}{ti:TT}{te:TE}
  (S:CSc X.N X.env.scope tg cp ci scope) (hcalm:X.calm=true) (hi:PI X target iter wi)
  (hg:∀cl C fp s H,PG (cxC X (tg++cp) scope cl C fp s H) target g) (ht:∀cl C fp s H,PIfs (cxC X (tg++cp) scope cl C fp s H) ifs ti) (he:∀cl C fp s H,PE (cxC X (tg++cp) scope cl C fp s H) elt te)
  (hs:∀x,foldedSetIterable iter X.env x=pure x:=by intro _;rfl):PE X (.ListComp elt [⟨target,iter,ifs,0⟩] scope pos) (zhW wi tg.length ci g ti te):=by
 intro pins s σ H Q I h;obtain⟨cl,hclos,h1,h2⟩:=za4 (scope:=scope) (env:=X.env) λx hx hf=>I.ok.has x.1 (S.free x hx hf)
 rw[eval_ListComp];refine wpAny_comprehension_free (use:=none) rfl hs hclos S.kind S.loc (thn (zeU S hcalm hi h1 h2 (hg cl) (ht cl) (he cl) I h) λx s1 q1=>thn q1 λit s2 q2=>thn q2 λacc s3 q3=>thn q3 λcenv s4 q4=>codeAny_mono q4 λr s' q=>?_);obtain⟨D,vs,H',e1,e2,I',f,G,q⟩:=q;subst e1 e2;obtain⟨m,hn⟩:=G.ns;exact⟨m,hn,λh' hsb=>⟨.ref D,_,G.turned I' hsb,rfl,q D f⟩⟩
theorem zhy{i:Nat}{y:Str}{py:Pos}{elt target iter:Expr}{ifs:List Expr}{scope:Scope}{pos spos:Pos}{tg cp:List Str}{ci:List Nat}{wi:TI}{g:TG}{ti:TT}{te:TE}
  (hN:X.N.Nodup) (hi':X.N[i]?=some y) (hy:Loc X.env.scope y)
  (S:CSc X.N X.env.scope tg cp ci scope) (hcalm:X.calm=true) (hi:PI X target iter wi)
  (hg:∀cl C fp s H,PG (cxC X (tg++cp) scope cl C fp s H) target g) (ht:∀cl C fp s H,PIfs (cxC X (tg++cp) scope cl C fp s H) ifs ti) (he:∀cl C fp s H,PE (cxC X (tg++cp) scope cl C fp s H) elt te)
  (hsw:swapsWith (.ListComp elt [⟨target,iter,ifs,0⟩] scope pos) (some (.Name y py)) spos.line X.env=pure true:=by rfl)
  (hs:∀x,foldedSetIterable iter X.env x=pure x:=by intro _;rfl) (hf:X.fn y=true\/X.env.scope.names.lookup y=some .local:=by first|exact .inl rfl|exact .inr rfl|assumption) :
  PS X (.Assign [.Name y py] (.ListComp elt [⟨target,iter,ifs,0⟩] scope pos) spos) (tAsg (zhW wi tg.length ci g ti te) (zaj i)):=by
 intro pins s σ H D I h;obtain⟨cl,hclos,h1,h2⟩:=za4 (scope:=scope) (env:=X.env) λx hx hf=>I.ok.has x.1 (S.free x hx hf)
 rw[exec_Assign_Name_used _ _ _ _ hsw];refine wpAny_bind (wpAny_standAt (wpAny_bind ?_));show wpAny _ X.A (do let _ <-comprehension (.ListComp elt [⟨target,iter,ifs,0⟩] scope pos) scope X.env _ (newList []) false (eval iter X.env) (some (assign (.Name y py) X.env))) _ _ s;refine wpAny_bind (wpAny_mono (wpAny_comprehension_free (use:=some (assign (.Name y py) X.env)) (Q:=λ_ s'=>SP X pins D .next s') rfl hs hclos S.kind S.loc
  (thn (zeU S hcalm hi h1 h2 (hg cl) (ht cl) (he cl) I h) λx s1 q1=>thn q1 λit s2 q2=>thn q2 λacc s3 q3=>thn q3 λcenv s4 q4=>codeAny_mono q4 λr s' q=>?_)) (λ_ s' hq=>wpAny_pure (wpAny_pure hq)) λ_ _ e=>e)
 obtain⟨D',vs,H',e1,e2,I',f,G,q⟩:=q;subst e1 e2;show wpAny _ X.A (assign (.Name y py) X.env (.ref D')) _ _ _;obtain⟨m,o,es,ep,ho,hd,hk⟩:=G.ns;have pin:Inv X ((cenv.locals,o)::pins) σ (upd H' D' (.lst vs)) s':=I'.pins_of λp hp=>by
  rcases List.mem_cons.mp hp with z|z
  ·subst z;exact⟨ho,G.free,G.ne,G.nofs,λv z=>by rw[hd]at z;cases z⟩
  ·exact I'.pin p (List.mem_append_right _ z)
 refine wpAny_assign_Name (yaQ (v:=V.ref D') pin hN hi' hy (show RelV (.ref D') (.ref D') from rfl) (λs2 I2=>?_) hf);have I3:Inv X pins (σ.set i (some (.ref D'))) (upd H' D' (.lst vs)) s2:=I2.pins_of λp hp=>I2.pin p (List.mem_append_right _ (List.mem_cons_of_mem _ hp))
 have e2:=I2.pin (cenv.locals,o) (List.mem_append_right _ List.mem_cons_self);have G2:Gone X pins (upd H' D' (.lst vs)) s2 cenv.locals:=⟨⟨m,o,es,ep,e2.1,hd,hk⟩,G.free,G.ne,G.ab,G.cells,G.pins,G.nofs⟩
 exact⟨m,⟨o,es,ep,e2.1,hd,hk⟩,λh' hsb=>⟨_,_,G2.turned I3 hsb,q D' f⟩⟩
end
end L2
end
section
namespace L2
open PySem PySem.Spec PyProof.Rows
structure ycP(P:Program)(w:World)(A:Around)(a:Addr)(dep:List Addr)(ok:Nat->Heap->Prop)(val:Nat->Option Value):Prop where
 mem:a∈dep
 obj:∀k h,ok k h->∃o,h.get? a=some o/\(∀v,o.data≠.cell v)/\o.cls≠.type "zip"/\o.cls≠.type "enumerate"/\o.cls≠.type "tuple"
 keep:∀k h h',ok k h->(∀b∈dep,∀o,h.get? b=some o->h'.get? b=some o)->ok k h'
 item:∀k x (s:Shared) (Q:Value->Shared->Prop) (E:Value->Shared->Prop),ok k s.heap->val k=some x->(∀h',ok (k+1) h'->Heap.SameBut a s.heap h'->Q x { s with heap:=h' })->
  wpAny (model P w) A (Builtin.SmallTypes.nextOf (.ref a)) Q E s
 stop:∀k (s:Shared) (Q:Value->Shared->Prop) (E:Value->Shared->Prop),ok k s.heap->val k=none->
  (∀h' e,Heap.ExtBut a s.heap h'->(∃o,h'.get? e=some o/\o.cls = .type "StopIteration")->E (.ref e) { s with heap:=h' })->wpAny (model P w) A (Builtin.SmallTypes.nextOf (.ref a)) Q E s
section
variable {P:Program} {w:World} {A:Around}
theorem zhI{a l:Addr}{xs:Array Value}(hh:A.handled=none)(ne:l≠a):ycP P w A a [a,l] (λk h=>h.IsListIter a l k/\h.IsList l xs) (λk=>xs[k]?) where
 mem:=List.mem_cons_self
 obj:=λk h z=>by
  obtain⟨⟨o,e,c,d⟩,_⟩:=z;exact⟨o,e,λv q=>(by rw[d]at q;cases q),(by rw[c];decide),(by rw[c];decide),(by rw[c];decide)⟩
 keep:=λk h h' z q=>⟨z.1.at λo e=>q a (by simp) o e,z.2.at λo e=>q l (by simp) o e⟩
 item:=λk x s Q E z e q=>wpAny_nextOf_list_item z.1 z.2 e λh' h1 h2=>q h' ⟨h1,z.2.extBut h2.extBut ne⟩ h2
 stop:=λk s Q E z e q=>wpAny_nextOf_list_end hh z.1 z.2 e q
theorem zdj{h h':Heap}{a l:Addr}{k:Nat}(x:h.IsTupleIter a l k)(e:∀o,h.get? a=some o->h'.get? a=some o):h'.IsTupleIter a l k:=let ⟨o,ho,r⟩:=x;⟨o,e _ ho,r⟩
theorem zgg{h h':Heap}{a:Addr}{xs:Array Value}(x:h.IsTuple a xs)(e:∀o,h.get? a=some o->h'.get? a=some o):h'.IsTuple a xs:=let ⟨o,ho,r⟩:=x;⟨o,e _ ho,r⟩
theorem yh4{a l:Addr}{xs:Array Value}(hh:A.handled=none)(ne:l≠a):ycP P w A a [a,l] (λk h=>h.IsTupleIter a l k/\h.IsTuple l xs) (λk=>xs[k]?) where
 mem:=List.mem_cons_self
 obj:=λk h z=>by
  obtain⟨⟨o,e,c,d⟩,_⟩:=z;exact⟨o,e,λv q=>(by rw[d]at q;cases q),(by rw[c];decide),(by rw[c];decide),(by rw[c];decide)⟩
 keep:=λk h h' z q=>⟨zdj z.1 λo e=>q a (by simp) o e,zgg z.2 λo e=>q l (by simp) o e⟩
 item:=λk x s Q E z e q=>by
  obtain⟨o,ho,hc,hd⟩:=id z.1;obtain⟨ol,hol,_,nl,hdl⟩:=id z.2;unfold Builtin.SmallTypes.nextOf;refine wpAny_bind (wpAny_callSpecial?_slot (name:=Str.ofString "__next__") z.1.typeIs F.slot_tuple_iterator_next (wpAny_call_entry F.slot_tuple_iterator_next z.1.typeIs F.entry_tuple_iterator_next ?_ (F.args_tuple_iterator_next_1 _)));show wpAny _ _ (field (.ref a) 0 >>= _) _ _ s;refine wpAny_bind (wpAny_field ho hd (x:=.ref l) rfl ?_);show wpAny _ _ (if (Value.ref l==Value.none)=true then _ else _) _ _ s;rw[if_neg (show ¬ ((Value.ref l==Value.none)=true) from Bool.false_ne_true)];show wpAny _ _ (field (.ref a) 1 >>= _) _ _ s;refine wpAny_bind (wpAny_field ho hd (x:=.int k 0) rfl ?_);show wpAny _ _ (seqItems? (.ref l) >>= _) _ _ s;refine wpAny_bind (wpAny_seqItems hol hdl ?_);simp only[Int.toNat_natCast,e];refine wpAny_bind (wpAny_setField ho hd (by simp) (wpAny_pure ⟨x,rfl,wpAny_pure (q _ ⟨?_,z.2.extBut (Heap.SameBut.update ..).extBut ne⟩ (Heap.SameBut.update ..))⟩));exact⟨_,Heap.get?_update_self _ ho (Obj.isFreed_of_fields (Obj.data_mapFields hd _)),(Obj.cls_mapFields ..).trans hc,by rw[Obj.data_mapFields hd];simp[rawInt]⟩
 stop:=λk s Q E z e q=>by
  obtain⟨o,ho,hc,hd⟩:=id z.1;obtain⟨ol,hol,_,nl,hdl⟩:=id z.2;unfold Builtin.SmallTypes.nextOf;refine wpAny_bind (wpAny_callSpecial?_slot (name:=Str.ofString "__next__") z.1.typeIs F.slot_tuple_iterator_next (wpAny_call_entry F.slot_tuple_iterator_next z.1.typeIs F.entry_tuple_iterator_next ?_ (F.args_tuple_iterator_next_1 _)));show wpAny _ _ (field (.ref a) 0 >>= _) _ _ s;refine wpAny_bind (wpAny_field ho hd (x:=.ref l) rfl ?_);show wpAny _ _ (if (Value.ref l==Value.none)=true then _ else _) _ _ s;rw[if_neg (show ¬ ((Value.ref l==Value.none)=true) from Bool.false_ne_true)];show wpAny _ _ (field (.ref a) 1 >>= _) _ _ s;refine wpAny_bind (wpAny_field ho hd (x:=.int k 0) rfl ?_);show wpAny _ _ (seqItems? (.ref l) >>= _) _ _ s;refine wpAny_bind (wpAny_seqItems hol hdl ?_);simp only[Int.toNat_natCast,e];refine wpAny_bind (wpAny_rule (wpAny_bind (wpAny_setField ho hd (by simp) ?_)));show wpAny _ _ (newExc (.type "StopIteration") [] >>= _) _ _ _;refine wpAny_bind ?_;simp only[newExc,newTuple];refine wpAny_bind (wpAny_newObj_type ?_ (by size_fits));refine wpAny_bind (m:=firstArgMember _ _) (wpAny_of_eq (a:=Value.none) (by first|rfl|(simp only[firstArgMember];rfl)) (wpAny_newObj_type ?_ (by size_fits)));simp only[raiseNew];refine wpAny_bind (wpAny_handled ?_)
  first|rw[show A.in1.handled=none from hh]|rw[hh]
  exact wpAny_bind (wpAny_pure (wpAny_throw (q _ _ (((Heap.SameBut.update ..).extBut.push _).push _) ⟨_,Heap.get?_push_size _ rfl,rfl⟩)))
end
structure ZAp(z TI TO:Addr)(d1 d2:List Addr)(i1 i2:Addr):Prop where
 a1:TI≠z
 a2:TO≠z
 a3:TI≠TO
 b1:z∉d1
 b2:z∉d2
 b3:TO∉d1
 b4:TO∉d2
 b5:TI≠i1
 b6:TI≠i2
 c1:i1∉d2
 c2:i2∉d1
noncomputable def zg3(h:Heap)(z TI TO T:Addr)(f:Bool):Prop:=h.get? z=some { cls:=.type "zip",data:=.fields #[rawInt T,.bool f,.bool false,.ref TI,.ref TO] }
section
variable {P:Program} {w:World} {A:Around} {s:Shared} {z TI TO i1 i2:Addr} {d1 d2:List Addr} {ok1 ok2:Nat->Heap->Prop} {v1 v2:Nat->Option Value}
theorem ycP.ext(S:ycP P w A i1 d1 ok1 v1){k:Nat}(o:ok1 k h)(e:Heap.ExtBut b h h')(n:b∉d1):ok1 k h':=S.keep k h h' o λc hc ob eb=>e c ob (λq=>n (q ▸ hc)) eb
theorem yfh{k:Nat}{x y p q:Value}{Q:Value->Shared->Prop}{E:Value->Shared->Prop}(D:ZAp z TI TO d1 d2 i1 i2)(S1:ycP P w A i1 d1 ok1 v1)(S2:ycP P w A i2 d2 ok2 v2)
  (hz:IsZip s.heap z TI TO .none) (hI:IsPair s.heap TI (.ref i1) (.ref i2)) (hO:IsPair s.heap TO p q) (o1:ok1 k s.heap) (o2:ok2 k s.heap) (e1:v1 k=some x) (e2:v2 k=some y)
  (hQ:∀g,zg3 g z TI TO s.heap.objs.size false->g.objs.size=s.heap.objs.size+1->IsPair g TO x y->ok1 (k+1) g->ok2 (k+1) g->IsPair g s.heap.objs.size x y->(∀c o,c≠z->c≠TO->c≠i1->c≠i2->s.heap.get? c=some o->g.get? c=some o)->Q (.ref s.heap.objs.size) { s with heap:=g }) :
  wpAny (model P w) A (Builtin.«zip.__next__» ⟨[.ref z],[]⟩) (λfin s'=>∃v,fin = .done (.ret v)/\Q v s') E s:=by
 have n1z:i1≠z:=λe=>D.b1 (e ▸ S1.mem)
 have n2z:i2≠z:=λe=>D.b2 (e ▸ S2.mem)
 have n1O:i1≠TO:=λe=>D.b3 (e ▸ S1.mem)
 have n2O:i2≠TO:=λe=>D.b4 (e ▸ S2.mem)
 show wpAny _ _ (field (.ref z) 2 >>= _) _ E s;refine wpAny_bind (wpAny_field hz rfl (x:=.bool false) rfl ?_);show wpAny _ _ (field (.ref z) 3 >>= _) _ E s;refine wpAny_bind (wpAny_field hz rfl (x:=.ref TI) rfl (wpAny_bind (wpAny_seqItems hI rfl ?_)));show wpAny _ _ (Builtin.SmallTypes.ownedTupleIsFree (.ref z) >>= _) _ E s;refine wpAny_bind ?_;unfold Builtin.SmallTypes.ownedTupleIsFree;refine wpAny_bind (wpAny_field hz rfl (x:=.none) rfl (wpAny_pure ?_));simp only[if_true];refine wpAny_bind (wpAny_rule (wpAny_bind (wpAny_field hz rfl (x:=.ref TO) rfl (wpAny_bind (wpAny_setField_rec hz (by simp) λg1 hz1 t1=>?_)))))
 replace hz1:IsZip g1 z TI TO .ellipsis:=hz1
 refine wpAny_bind ?_;simp only[List.zipIdx_cons,List.zipIdx_nil,List.forIn_cons,List.forIn_nil];refine wpAny_bind (wpAny_bind (wpAny_onRaise ?_));show wpAny _ _ (Builtin.SmallTypes.nextOf (.ref i1) >>= _) _ _ _;refine(wpAny_bind (S1.item k x _ _ _ (S1.ext o1 t1.extBut D.b1) e1 λg2 o12 t2=>wpAny_pure ?_));have hO2:IsPair g2 TO p q:=t2.extBut _ _ (Ne.symm n1O) (t1.extBut _ _ D.a2 hO);refine wpAny_bind (wpAny_seqItems hO2 rfl (wpAny_bind (wpAny_updateSeq_pair hO2 λg3 hO3 t3=>?_)))
 replace hO3:IsPair g3 TO x q:=hO3
 refine wpAny_bind (wpAny_letGo (wpAny_pure ?_));have o23:ok2 k g3:=S2.ext (S2.ext (S2.ext o2 t1.extBut D.b2) t2.extBut D.c1) t3.extBut D.b4;refine wpAny_bind (wpAny_bind (wpAny_onRaise ?_));show wpAny _ _ (Builtin.SmallTypes.nextOf (.ref i2) >>= _) _ _ _;refine(wpAny_bind (S2.item k y _ _ _ o23 e2 λg4 o24 t4=>wpAny_pure ?_));have hO4:IsPair g4 TO x q:=t4.extBut _ _ (Ne.symm n2O) hO3;refine wpAny_bind (wpAny_seqItems hO4 rfl (wpAny_bind (wpAny_updateSeq_pair hO4 λg5 hO5 t5=>?_)))
 replace hO5:IsPair g5 TO x y:=hO5
 refine wpAny_bind (wpAny_letGo (wpAny_pure (wpAny_pure ?_)));refine wpAny_bind (wpAny_seqItems hO5 rfl (wpAny_bind (wpAny_newTuple ?_)));have sz:g5.objs.size=s.heap.objs.size:=by rw[t5.1,t4.1,t3.1,t2.1,t1.1]
 have hz5:IsZip g5 z TI TO .ellipsis:=t5.extBut _ _ (Ne.symm D.a2) (t4.extBut _ _ (Ne.symm n2z) (t3.extBut _ _ (Ne.symm D.a2) (t2.extBut _ _ (Ne.symm n1z) hz1)));have k5:∀c o,c≠z->c≠TO->c≠i1->c≠i2->s.heap.get? c=some o->g5.get? c=some o:=λc o m1 m2 m3 m4 e=>t5.extBut _ _ m2 (t4.extBut _ _ m4 (t3.extBut _ _ m2 (t2.extBut _ _ m3 (t1.extBut _ _ m1 e))))
 have o15:ok1 (k+1) g5:=S1.ext (S1.ext (S1.ext o12 t3.extBut D.b3) t4.extBut D.c2) t5.extBut D.b3;have o25:ok2 (k+1) g5:=S2.ext o24 t5.extBut D.b4;have zlt:z<g5.objs.size:=Heap.lt_size hz5;show wpAny _ _ (Builtin.SmallTypes.ownedTupleHandOut (.ref z) (.ref g5.objs.size) >>= _) _ E _;refine wpAny_bind ?_;unfold Builtin.SmallTypes.ownedTupleHandOut;have hz6:IsZip (g5.push { cls:=.type "tuple",data:=.seq #[x,y] }) z TI TO .ellipsis:=Heap.get?_push_of_some _ hz5;refine wpAny_bind (wpAny_setField_rec hz6 (by simp) λg7 hz7 t7=>?_)
 replace hz7:IsZip g7 z TI TO (rawInt g5.objs.size):=hz7
 refine wpAny_setField_rec hz7 (by simp) λg8 hz8 t8=>?_
 replace hz8:zg3 g8 z TI TO g5.objs.size false:=hz8
 have up:∀c o,c≠z->g5.get? c=some o->g8.get? c=some o:=λc o m e=>t8.extBut _ _ m (t7.extBut _ _ m (Heap.get?_push_of_some _ e))
 have hT8:IsPair g8 g5.objs.size x y:=t8.extBut _ _ (Nat.ne_of_gt zlt) (t7.extBut _ _ (Nat.ne_of_gt zlt) (Heap.get?_push_size _ rfl));have sz8:g8.objs.size=s.heap.objs.size+1:=by rw[t8.1,t7.1,Heap.size_push,sz]
 rw[sz]at hz8 hT8;refine wpAny_pure ⟨_,rfl,?_⟩;show Q (.ref g5.objs.size) _;rw[sz];exact hQ g8 hz8 sz8 (up _ _ D.a2 hO5) (S1.keep _ _ _ o15 λb hb o e=>up b o (λq=>D.b1 (q ▸ hb)) e) (S2.keep _ _ _ o25 λb hb o e=>up b o (λq=>D.b2 (q ▸ hb)) e) hT8 λc o m1 m2 m3 m4 e=>up c o m1 (k5 c o m1 m2 m3 m4 e)
theorem zgi{k:Nat}{x y p q:Value}{Q:Value->Shared->Prop}{E:Value->Shared->Prop}(D:ZAp z TI TO d1 d2 i1 i2)(S1:ycP P w A i1 d1 ok1 v1)(S2:ycP P w A i2 d2 ok2 v2)
  (hz:IsZip s.heap z TI TO .none) (hI:IsPair s.heap TI (.ref i1) (.ref i2)) (hO:IsPair s.heap TO p q) (o1:ok1 k s.heap) (o2:ok2 k s.heap) (e1:v1 k=some x) (e2:v2 k=some y)
  (hQ:∀g,IsZip g z TI TO (rawInt s.heap.objs.size)->IsPair g TO x y->ok1 (k+1) g->ok2 (k+1) g->IsPair g s.heap.objs.size x y->(∀c o,c≠z->c≠TO->c≠i1->c≠i2->s.heap.get? c=some o->g.get? c=some o)->Q (.ref s.heap.objs.size) { s with heap:=g }) :
  wpAny (model P w) A (Builtin.«zip.__next__» ⟨[.ref z],[]⟩) (λfin s'=>∃v,fin = .done (.ret v)/\Q v s') E s :=
 yfh D S1 S2 hz hI hO o1 o2 e1 e2 λg a _ b c d e=>hQ g a b c d e
theorem zgv{k:Nat}(D:ZAp z TI TO d1 d2 i1 i2)(S1:ycP P w A i1 d1 ok1 v1)(S2:ycP P w A i2 d2 ok2 v2)
  (hz:IsZip s.heap z TI TO .none) (hI:IsPair s.heap TI (.ref i1) (.ref i2)) (hO:IsPair s.heap TO p q) (o1:ok1 k s.heap) (o2:ok2 k s.heap) (he:v1 k=none\/v2 k=none)
  (hE:∀g e,(∀c o,c≠z->c≠TO->c≠i1->c≠i2->s.heap.get? c=some o->g.get? c=some o)->(∃o,g.get? e=some o/\o.cls = .type "StopIteration")->E (.ref e) { s with heap:=g }) :
  wpAny (model P w) A (Builtin.«zip.__next__» ⟨[.ref z],[]⟩) Q E s:=by
 have n1z:i1≠z:=λe=>D.b1 (e ▸ S1.mem)
 have n2z:i2≠z:=λe=>D.b2 (e ▸ S2.mem)
 have n1O:i1≠TO:=λe=>D.b3 (e ▸ S1.mem)
 show wpAny _ _ (field (.ref z) 2 >>= _) _ E s;refine wpAny_bind (wpAny_field hz rfl (x:=.bool false) rfl ?_);show wpAny _ _ (field (.ref z) 3 >>= _) _ E s;refine wpAny_bind (wpAny_field hz rfl (x:=.ref TI) rfl (wpAny_bind (wpAny_seqItems hI rfl ?_)));show wpAny _ _ (Builtin.SmallTypes.ownedTupleIsFree (.ref z) >>= _) _ E s;refine wpAny_bind ?_;unfold Builtin.SmallTypes.ownedTupleIsFree;refine wpAny_bind (wpAny_field hz rfl (x:=.none) rfl (wpAny_pure ?_));simp only[if_true];refine wpAny_bind (wpAny_rule (wpAny_bind (wpAny_field hz rfl (x:=.ref TO) rfl (wpAny_bind (wpAny_setField_rec hz (by simp) λg1 hz1 t1=>?_)))))
 replace hz1:IsZip g1 z TI TO .ellipsis:=hz1
 refine wpAny_bind ?_;simp only[List.zipIdx_cons,List.zipIdx_nil,List.forIn_cons,List.forIn_nil];have o11:ok1 k g1:=S1.ext o1 t1.extBut D.b1;cases e1:v1 k with
 |none=>
  refine wpAny_bind (wpAny_bind (wpAny_onRaise ?_));show wpAny _ _ (Builtin.SmallTypes.nextOf (.ref i1) >>= _) _ _ _;refine(wpAny_bind (S1.stop k _ _ _ o11 e1 λg2 e t2 ⟨oe,he',ce⟩=>?_));have hz2:IsZip g2 z TI TO .ellipsis:=t2 _ _ (Ne.symm n1z) hz1;have ez:e≠z:=λq=>by subst q;rw[hz2]at he';cases he';simp at ce
  exact wpAny_setField_rec hz2 (by simp) λg3 _ t3=>hE g3 e (λc o m1 _ m3 _ x=>t3.extBut _ _ m1 (t2 _ _ m3 (t1.extBut _ _ m1 x))) ⟨oe,t3.extBut _ _ ez he',ce⟩
 |some x=>
  have e2:v2 k=none:=by rcases he with h|h;rw[e1]at h;cases h;exact h
  refine wpAny_bind (wpAny_bind (wpAny_onRaise ?_));show wpAny _ _ (Builtin.SmallTypes.nextOf (.ref i1) >>= _) _ _ _;refine(wpAny_bind (S1.item k x _ _ _ o11 e1 λg2 o12 t2=>wpAny_pure ?_));have hO2:IsPair g2 TO p q:=t2.extBut _ _ (Ne.symm n1O) (t1.extBut _ _ D.a2 hO);refine wpAny_bind (wpAny_seqItems hO2 rfl (wpAny_bind (wpAny_updateSeq_pair hO2 λg3 hO3 t3=>?_)));refine wpAny_bind (wpAny_letGo (wpAny_pure ?_));have o23:ok2 k g3:=S2.ext (S2.ext (S2.ext o2 t1.extBut D.b2) t2.extBut D.c1) t3.extBut D.b4;refine wpAny_bind (wpAny_bind (wpAny_onRaise ?_));show wpAny _ _ (Builtin.SmallTypes.nextOf (.ref i2) >>= _) _ _ _;refine(wpAny_bind (S2.stop k _ _ _ o23 e2 λg4 e t4 ⟨oe,he',ce⟩=>?_));have hz4:IsZip g4 z TI TO .ellipsis:=t4 _ _ (Ne.symm n2z) (t3.extBut _ _ (Ne.symm D.a2) (t2.extBut _ _ (Ne.symm n1z) hz1));have ez:e≠z:=λq=>by subst q;rw[hz4]at he';cases he';simp at ce
  exact wpAny_setField_rec hz4 (by simp) λg5 _ t5=>hE g5 e (λc o m1 m2 m3 m4 x=>t5.extBut _ _ m1 (t4 _ _ m4 (t3.extBut _ _ m2 (t2.extBut _ _ m3 (t1.extBut _ _ m1 x))))) ⟨oe,t5.extBut _ _ ez he',ce⟩
end
end L2
end
section
namespace L2
open PySem PySem.Spec PyProof.Rows
def SqB(K:PySem.W.Frag):Bool->Hp->Addr->List V->Prop
 |true=>λH a xs=>SqT K H a xs
 |false=>λH a xs=>SqL K H a xs
def zbj:Bool->Heap->Addr->Array Value->Prop
 |true=>λh a xs=>h.IsTuple a xs
 |false=>λh a xs=>h.IsList a xs
def zdD:Bool->Heap->Addr->Addr->Nat->Prop
 |true=>λh a l k=>h.IsTupleIter a l k
 |false=>λh a l k=>h.IsListIter a l k
noncomputable def yam(b:Bool)(l:Addr):Obj:={ cls:=.type (if b then "tuple_iterator" else "list_iterator"),data:=.fields #[.ref l,.int 0 0] }
theorem ycQ(b:Bool)(h:Heap)(l:Addr)(a:Addr)(e:h.get? a=some (yam b l)):zdD b h a l 0:=by cases b <;> exact⟨_,e,rfl,rfl⟩
theorem zbM{b:Bool}{k:Nat}(x:zdD b h a l k)(e:∀o,h.get? a=some o->h'.get? a=some o):zdD b h' a l k:=by
 cases b
 ·exact Heap.IsListIter.at x e
 ·exact zdj x e
theorem zfK{b:Bool}(x:zbj b h a xs)(e:∀o,h.get? a=some o->h'.get? a=some o):zbj b h' a xs:=by
 cases b
 ·exact Heap.IsList.at x e
 ·exact zgg x e
theorem subB{P:Program}{w:World}{A:Around}(b:Bool){xs:Array Value}(hh:A.handled=none)(ne:l≠a):ycP P w A a [a,l] (λk h=>zdD b h a l k/\zbj b h l xs) (λk=>xs[k]?):=by
 cases b
 ·exact zhI hh ne
 ·exact yh4 hh ne
theorem yaT{b:Bool}{k:Nat}(x:zdD b h a l k):∃o,h.get? a=some o/\(∀v,o.data≠.cell v)/\(o.cls = .type "tuple_iterator"\/o.cls = .type "list_iterator"):=by
 cases b <;> obtain⟨o,e,c,d⟩:=x
 ·exact⟨o,e,λv q=>(by rw[d]at q;cases q),.inr c⟩
 ·exact⟨o,e,λv q=>(by rw[d]at q;cases q),.inl c⟩
theorem yda{b:Bool}(x:zbj b h a xs):∃o,h.get? a=some o/\(o.cls = .type "tuple"\/o.cls = .type "list"):=by
 cases b <;> obtain⟨o,e,c,d⟩:=x
 ·exact⟨o,e,.inr c⟩
 ·exact⟨o,e,.inl c⟩
theorem ycp{b:Bool}(ht:zbj b s.heap t items)
  (hQ:Q (.ref s.heap.objs.size) { s with heap:=s.heap.push (yam b t) }):wpAny (model P w) A (pyIter (.ref t)) Q E s:=by
 cases b
 ·exact wpAny_pyIter_list ht hQ
 ·exact wpAny_pyIter_tuple ht hQ
section
variable {X:Cx} {pins:List (Addr×Obj)} {σ:St} {H:Hp} {s:Shared}
theorem Inv.seqB{b:Bool}(I:Inv X pins σ H s)(h:SqB X.K b H a xs):∃its:List Value,Vals xs its/\zbj b s.heap a its.toArray/\xs.length<=sizeLine:=by
 cases b
 ·obtain⟨its,r,p,z⟩:=I.list h;exact⟨its,r,p.isList,z⟩
 ·obtain⟨its,r,p,z⟩:=I.tuple h;exact⟨its,r,p,z⟩
theorem Inv.seqB_inj{b:Bool}(I:Inv X pins σ H s)(h:SqB X.K b H a xs)(h':SqB X.K b H a ys):xs=ys:=by
 cases b
 ·exact I.list_inj h h'
 ·exact I.tuple_inj h h'
theorem Inv.turnedT{fp:List Addr}{h':Heap}{t':Nat}{T:Addr}{xs:List V}{its:Array Value}(I:Inv X pins σ H s)(hf:∀b∈fp,FpOk X pins H b)(k:∀b o,b∉fp->s.heap.get? b=some o->h'.get? b=some o)
  (hp:s.heap.objs.size<=T) (z:xs.length<=sizeLine) (r:Vals xs its.toList) (new:h'.IsTuple T its):Inv X pins σ (upd H T (.tup xs)) { s with heap:=h',toks:=t' }:=by
 have fT:H T=none:=I.hok.fresh hp;have nT:∀b o,s.heap.get? b=some o->b≠T:=λb o e q=>by
  have l1:s.heap.objs.size>=Nat.succ b:=Heap.lt_size e;have l2:@Eq Nat b T:=q
  lia
 have nfp:∀b u,H b=some u->b∉fp:=λb u e q=>by rw[(hf b q).1]at e;cases e
 refine I.step (g':=s.gens) (d':=s.drawn) (ch:=fp) (λb hb=>⟨(hf b hb).2.2.2.1,(hf b hb).2.1,(hf b hb).2.2.2.2.1,(hf b hb).2.2.2.2.2⟩) (λb o _ _ hc e _=>k b o hc e) (λb o _ _ hc e _=>⟨o.slots,k b o hc e⟩)
  (λb o _ e n=>by rw[zad (nT b o e)];exact n) (λb o hc e=>⟨o,k b o hc e⟩) (λb ys e=>by rw[zad (yac e fT)];exact e) (λb o u e=>by rw[zad (yac e fT)];exact e)
  (λb ps e=>⟨#[],by rw[zad (yac e fT),e];simp⟩) (λm hm=>?_) (λb u e=>?_) I.bare
 ·obtain⟨o,es,ep,ho,q⟩:=hm;exact⟨o,es,ep,k _ o (λhb=>(hf _ hb).2.1 rfl) ho,q⟩
 ·by_cases hb:b=T
  ·subst hb;rw[zaa]at e;cases e;have q:IsTup h' b its:=new;exact⟨z,its.toList,r,by simpa using q⟩
  ·rw[zad hb]at e;refine(I.hok b u e).stay (λc v hc q=>k c v ?_ q) (λc q=>?_) λc ys q=>?_
   ·rcases hc with hc|hc
    ·rw[hc];exact nfp b u e
    ·exact nfp c _ hc
   ·rw[zad (yac q fT)];exact q
   ·rw[zad (yac q fT)];exact q
theorem Inv.turnedL{fp:List Addr}{h':Heap}{t':Nat}(I:Inv X pins σ H s)(hf:∀b∈fp,FpOk X pins H b)(k:∀b o,b∉fp->s.heap.get? b=some o->h'.get? b=some o):Inv X pins σ H { s with heap:=h',toks:=t' }:=by
 have nfp:∀b u,H b=some u->b∉fp:=λb u e q=>by rw[(hf b q).1]at e;cases e
 refine I.step (g':=s.gens) (d':=s.drawn) (ch:=fp) (λb hb=>⟨(hf b hb).2.2.2.1,(hf b hb).2.1,(hf b hb).2.2.2.2.1,(hf b hb).2.2.2.2.2⟩) (λb o _ _ hc e _=>k b o hc e) (λb o _ _ hc e _=>⟨o.slots,k b o hc e⟩)
  (λb o _ e n=>n) (λb o hc e=>⟨o,k b o hc e⟩) (λb ys e=>e) (λb o u e=>e) (λb ps e=>⟨#[],by rw[e];simp⟩) (λm hm=>?_) (λb u e=>?_) I.bare
 ·obtain⟨o,es,ep,ho,q⟩:=hm;exact⟨o,es,ep,k _ o (λhb=>(hf _ hb).2.1 rfl) ho,q⟩
 ·refine(I.hok b u e).stay (λc v hc q=>k c v ?_ q) (λc q=>q) λc ys q=>q
  rcases hc with hc|hc
  ·rw[hc];exact nfp b u e
  ·exact nfp c _ hc
end
noncomputable def Itz(K:PySem.W.Frag)(b1 b2:Bool)(l1 l2:Addr):It :=
 ⟨λi H=>Ex4 λxs ys x y=>SqB K b1 H l1 xs/\SqB K b2 H l2 ys/\xs[i]?=some x/\ys[i]?=some y,
  λi H v H'=>Ex3 λT x y=>v = .ref T/\H T=none/\H'=upd H T (.tup [x,y])/\(∀xs,SqB K b1 H l1 xs->xs[i]?=some x)/\(∀ys,SqB K b2 H l2 ys->ys[i]?=some y),
  λi H=>Ex2 λxs ys=>SqB K b1 H l1 xs/\SqB K b2 H l2 ys/\(xs.length<=i\/ys.length<=i)⟩
structure ZSt(b1 b2:Bool)(z TI TO i1 i2 l1 l2:Addr)(k:Nat)(h:Heap):Prop where
 zip:IsZip h z TI TO .none
 ti:IsPair h TI (.ref i1) (.ref i2)
 to:Ex2 λa b=>IsPair h TO a b
 it1:zdD b1 h i1 l1 k
 it2:zdD b2 h i2 l2 k
theorem yaU{h:Heap}{a b:Addr}{o u:Obj}{x y:String}(e:h.get? a=some o)(e':h.get? b=some u)(ca:o.cls = .type x)(cb:u.cls = .type y)(n:x≠y:=by decide):a≠b:=λq=>by
 subst q;rw[e]at e';cases e';rw[ca]at cb;injection cb with cb;exact n cb
theorem Inv.sq_ne{b:Bool}(I:Inv X pins σ H s)(h:SqB X.K b H l xs)(f:FpOk X pins H c):l≠c:=by
 have key:(∃u,H l=some u)\/∃o,X.K.lookup l=some o:=by
  cases b
  ·rcases h with(h |⟨o,h⟩) |⟨o,_,_,h,_⟩
   ·exact .inl ⟨_,h⟩
   ·exact .inl ⟨_,h⟩
   ·exact .inr ⟨o,h⟩
  ·rcases h with(h |⟨o,h⟩) |⟨o,_,_,h,_⟩
   ·exact .inl ⟨_,h⟩
   ·exact .inl ⟨_,h⟩
   ·exact .inr ⟨o,h⟩
 intro q;subst q;rcases key with⟨u,e⟩ |⟨o,e⟩
 ·rw[f.1]at e;cases e
 ·have eb:=I.ok.mod.kin l o e;rcases f.2.2.2.1 with z|z
  ·exact I.ok.noex l o eb z
  ·have l1:X.base.objs.size>=Nat.succ l:=Heap.lt_size eb;have l2:X.base.objs.size<=X.s₀.heap.objs.size:=I.ok.bsz;have l3:X.s₀.heap.objs.size<=l:=z
   lia
theorem zgE{P:Program}{w:World}{K:PySem.W.Frag}{elts:List Expr}{kk:Nat}{tpos:Pos}(b1 b2:Bool)(z TI TO i1 i2 l1 l2:Addr)(nIO:TI≠TO)(n12:i1≠i2) :
  Turn P w K (.Tuple elts kk tpos) (Itz K b1 b2 l1 l2) [z,TI,TO,i1,i2] z (ZSt b1 b2 z TI TO i1 i2 l1 l2) where
 mem:=List.mem_cons_self
 obj:=λk h S b hb=>by
  obtain⟨p,q,hO⟩:=S.to;obtain⟨o1,e1,d1,_⟩:=yaT S.it1;obtain⟨o2,e2,d2,_⟩:=yaT S.it2;simp only[List.mem_cons,List.not_mem_nil,or_false]at hb;rcases hb with rfl|rfl|rfl|rfl|rfl
  ·exact⟨_,S.zip,λv q=>by cases q⟩
  ·exact⟨_,S.ti,λv q=>by cases q⟩
  ·exact⟨_,hO,λv q=>by cases q⟩
  ·exact⟨o1,e1,d1⟩
  ·exact⟨o2,e2,d2⟩
 keep:=λk h h' S q=>by
  obtain⟨p,r,hO⟩:=S.to;exact⟨q z (by simp) _ S.zip,q TI (by simp) _ S.ti,⟨p,r,q TO (by simp) _ hO⟩,zbM S.it1 λo e=>q i1 (by simp) o e,zbM S.it2 λo e=>q i2 (by simp) o e⟩
 item:=by
  intro X hP hw hK hc i pins s σ H E I hf S hg;subst hP hw hK;obtain⟨xs,ys,x,y,h1,h2,ex,ey⟩:=hg;obtain⟨us,r1,p1,z1⟩:=I.seqB h1;obtain⟨vs,r2,p2,z2⟩:=I.seqB h2;obtain⟨u,eu,ru⟩:=r1.get ex;obtain⟨v,ev,rv⟩:=r2.get ey;obtain⟨p,q,hO⟩:=S.to;obtain⟨o1,e1,_,c1⟩:=yaT S.it1;obtain⟨o2,e2,_,c2⟩:=yaT S.it2;obtain⟨q1,f1,g1⟩:=yda p1;obtain⟨q2,f2,g2⟩:=yda p2;have fz:∀b∈[z,TI,TO,i1,i2],H b=none:=λb hb=>(hf b hb).1
  have hh:X.A.handled=none:=I.ok.hd hc;have nl1:∀b∈[z,TI,TO,i1,i2],l1≠b:=λb hb=>I.sq_ne h1 (hf b hb)
  have nl2:∀b∈[z,TI,TO,i1,i2],l2≠b:=λb hb=>I.sq_ne h2 (hf b hb)
  have i1z:i1≠z:=by rcases c1 with c|c <;> exact yaU e1 S.zip c rfl
  have i2z:i2≠z:=by rcases c2 with c|c <;> exact yaU e2 S.zip c rfl
  have i1I:i1≠TI:=by rcases c1 with c|c <;> exact yaU e1 S.ti c rfl
  have i2I:i2≠TI:=by rcases c2 with c|c <;> exact yaU e2 S.ti c rfl
  have i1O:i1≠TO:=by rcases c1 with c|c <;> exact yaU e1 hO c rfl
  have i2O:i2≠TO:=by rcases c2 with c|c <;> exact yaU e2 hO c rfl
  have Iz:TI≠z:=yaU S.ti S.zip rfl rfl;have Oz:TO≠z:=yaU hO S.zip rfl rfl;have D:ZAp z TI TO [i1,l1] [i2,l2] i1 i2:=by
   refine⟨Iz,Oz,nIO,?_,?_,?_,?_,Ne.symm i1I,Ne.symm i2I,?_,?_⟩
   ·simp only[List.mem_cons,List.not_mem_nil,or_false,not_or];exact⟨Ne.symm i1z,Ne.symm (nl1 z (by simp))⟩
   ·simp only[List.mem_cons,List.not_mem_nil,or_false,not_or];exact⟨Ne.symm i2z,Ne.symm (nl2 z (by simp))⟩
   ·simp only[List.mem_cons,List.not_mem_nil,or_false,not_or];exact⟨Ne.symm i1O,Ne.symm (nl1 TO (by simp))⟩
   ·simp only[List.mem_cons,List.not_mem_nil,or_false,not_or];exact⟨Ne.symm i2O,Ne.symm (nl2 TO (by simp))⟩
   ·simp only[List.mem_cons,List.not_mem_nil,or_false,not_or];exact⟨n12,Ne.symm (nl2 i1 (by simp))⟩
   ·simp only[List.mem_cons,List.not_mem_nil,or_false,not_or];exact⟨Ne.symm n12,Ne.symm (nl1 i2 (by simp))⟩
  have hT:s.TypeIs (.ref z) "zip":=⟨_,S.zip,rfl⟩
  unfold pyNext;refine wpAny_bind (wpAny_attempt (wpAny_callSpecial?_slot (name:=Str.ofString "__next__") hT F.slot_zip_next (wpAny_call_entry F.slot_zip_next hT F.entry_zip_next
   (zgi D (subB b1 (A:=X.A.in1) hh (nl1 i1 (by simp))) (subB b2 (A:=X.A.in1) hh (nl2 i2 (by simp))) S.zip S.ti hO ⟨S.it1,p1⟩ ⟨S.it2,p2⟩ (x:=u) (y:=v) (by simpa using eu) (by simpa using ev)
    λg a1 a2 a3 a4 a5 a6=>wpAny_pure ?_) (F.args_zip_next_1 _))))
  refine⟨_,rfl,wpAny_letOwnedTupleGo_zip (s:={ s with heap:=g }) a1 λg' hz' t=>?_⟩;have lt:∀ {c:Addr} {o:Obj},s.heap.get? c=some o->s.heap.objs.size≠c:=λe=>Nat.ne_of_gt (Heap.lt_size e)
  have k':∀b o,b∉[z,TI,TO,i1,i2]->s.heap.get? b=some o->g'.get? b=some o:=λb o hb e=>by
   simp only[List.mem_cons,List.not_mem_nil,or_false,not_or]at hb;exact t.extBut b o hb.1 (a6 b o hb.1 hb.2.2.1 hb.2.2.2.1 hb.2.2.2.2 e)
  have hTI':IsPair g' TI (.ref i1) (.ref i2):=t.extBut _ _ Iz (a6 _ _ Iz nIO (Ne.symm i1I) (Ne.symm i2I) S.ti);have hS':ZSt b1 b2 z TI TO i1 i2 l1 l2 (i+1) g':=⟨hz',hTI',⟨_,_,t.extBut _ _ Oz a2⟩,zbM a3.1 λo e=>t.extBut _ _ i1z e,zbM a4.1 λo e=>t.extBut _ _ i2z e⟩
  have fT:H s.heap.objs.size=none:=I.hok.fresh (Nat.le_refl _);have J:Inv X pins σ (upd H s.heap.objs.size (.tup [x,y])) { s with heap:=g' }:=I.turnedT (t':=s.toks) (fp:=[z,TI,TO,i1,i2]) hf k' (Nat.le_refl _) (by show 2<=sizeLine;decide) (its:=#[u,v]) (.cons ru (.cons rv .nil)) ⟨_,t.extBut _ _ (lt S.zip) a5,rfl,_,rfl⟩;refine⟨.ref s.heap.objs.size,upd H s.heap.objs.size (.tup [x,y]),J,rfl,
   ⟨_,x,y,rfl,fT,rfl,λxs' hx'=>by rw[I.seqB_inj hx' h1];exact ex,λys' hy'=>by rw[I.seqB_inj hy' h2];exact ey⟩,hS',λb hb=>?_⟩
  have fobj:∃o,s.heap.get? b=some o:=by
   simp only[List.mem_cons,List.not_mem_nil,or_false]at hb;rcases hb with rfl|rfl|rfl|rfl|rfl
   ·exact⟨_,S.zip⟩
   ·exact⟨_,S.ti⟩
   ·exact⟨_,hO⟩
   ·exact⟨_,e1⟩
   ·exact⟨_,e2⟩
  obtain⟨o,eo⟩:=fobj;rw[zad (Ne.symm (lt eo))];exact fz b hb
 done:=by
  intro X hP hw hK hc i pins s σ H E I hf S hg;subst hP hw hK;obtain⟨xs,ys,h1,h2,le⟩:=hg;obtain⟨us,r1,p1,z1⟩:=I.seqB h1;obtain⟨vs,r2,p2,z2⟩:=I.seqB h2;obtain⟨p,q,hO⟩:=S.to;obtain⟨o1,e1,_,c1⟩:=yaT S.it1;obtain⟨o2,e2,_,c2⟩:=yaT S.it2;have hh:X.A.handled=none:=I.ok.hd hc;have nl1:∀b∈[z,TI,TO,i1,i2],l1≠b:=λb hb=>I.sq_ne h1 (hf b hb)
  have nl2:∀b∈[z,TI,TO,i1,i2],l2≠b:=λb hb=>I.sq_ne h2 (hf b hb)
  have i1z:i1≠z:=by rcases c1 with c|c <;> exact yaU e1 S.zip c rfl
  have i2z:i2≠z:=by rcases c2 with c|c <;> exact yaU e2 S.zip c rfl
  have i1I:i1≠TI:=by rcases c1 with c|c <;> exact yaU e1 S.ti c rfl
  have i2I:i2≠TI:=by rcases c2 with c|c <;> exact yaU e2 S.ti c rfl
  have i1O:i1≠TO:=by rcases c1 with c|c <;> exact yaU e1 hO c rfl
  have i2O:i2≠TO:=by rcases c2 with c|c <;> exact yaU e2 hO c rfl
  have Iz:TI≠z:=yaU S.ti S.zip rfl rfl;have Oz:TO≠z:=yaU hO S.zip rfl rfl;have D:ZAp z TI TO [i1,l1] [i2,l2] i1 i2:=by
   refine⟨Iz,Oz,nIO,?_,?_,?_,?_,Ne.symm i1I,Ne.symm i2I,?_,?_⟩
   ·simp only[List.mem_cons,List.not_mem_nil,or_false,not_or];exact⟨Ne.symm i1z,Ne.symm (nl1 z (by simp))⟩
   ·simp only[List.mem_cons,List.not_mem_nil,or_false,not_or];exact⟨Ne.symm i2z,Ne.symm (nl2 z (by simp))⟩
   ·simp only[List.mem_cons,List.not_mem_nil,or_false,not_or];exact⟨Ne.symm i1O,Ne.symm (nl1 TO (by simp))⟩
   ·simp only[List.mem_cons,List.not_mem_nil,or_false,not_or];exact⟨Ne.symm i2O,Ne.symm (nl2 TO (by simp))⟩
   ·simp only[List.mem_cons,List.not_mem_nil,or_false,not_or];exact⟨n12,Ne.symm (nl2 i1 (by simp))⟩
   ·simp only[List.mem_cons,List.not_mem_nil,or_false,not_or];exact⟨Ne.symm n12,Ne.symm (nl1 i2 (by simp))⟩
  have he:us.toArray[i]?=none\/vs.toArray[i]?=none:=by
   have l1:=r1.length;have l2:=r2.length;rcases le with l|l
   ·exact .inl (by simp;lia)
   ·exact .inr (by simp;lia)
  have hT:s.TypeIs (.ref z) "zip":=⟨_,S.zip,rfl⟩
  unfold pyNext;refine wpAny_bind (wpAny_attempt (wpAny_callSpecial?_slot (name:=Str.ofString "__next__") hT F.slot_zip_next (wpAny_call_entry F.slot_zip_next hT F.entry_zip_next
   (zgv D (subB b1 (A:=X.A.in1) hh (nl1 i1 (by simp))) (subB b2 (A:=X.A.in1) hh (nl2 i2 (by simp))) S.zip S.ti hO ⟨S.it1,p1⟩ ⟨S.it2,p2⟩ he λg e kg ⟨oe,ho,hce⟩=>?_) (F.args_zip_next_1 _))))
  refine wpAny_bind (wpAny_isInstance (T:="StopIteration") (b:=true) ⟨oe,ho,hce⟩ isSubtype_stop (wpAny_pure ⟨rfl,?_⟩));refine I.turnedL (t':=s.toks) (fp:=[z,TI,TO,i1,i2]) hf λb o hb e=>?_
  simp only[List.mem_cons,List.not_mem_nil,or_false,not_or]at hb;exact kg b o hb.1 hb.2.2.1 hb.2.2.2.1 hb.2.2.2.2 e
 self:=λA i s Q E S h=>wpAny_pyIter_zip S.zip h
noncomputable def zf2(h:Heap)(o1 o2:Obj):Heap:=(((h.push o1).push o2).push { cls:=.type "tuple",data:=.seq #[.ref h.objs.size,.ref (h.push o1).objs.size] }).push { cls:=.type "tuple",data:=.seq #[.none,.none] }
noncomputable def yc8(h:Heap)(o1 o2:Obj):Heap:=(zf2 h o1 o2).push { cls:=.type "zip",data:=.fields #[.none,.bool false,.bool false,.ref ((h.push o1).push o2).objs.size,.ref (((h.push o1).push o2).push { cls:=.type "tuple",data:=.seq #[.ref h.objs.size,.ref (h.push o1).objs.size] }).objs.size] }
theorem zfo(b1 b2:Bool)(l1 l2:Addr)(xs ys:Array Value) :
  Meets (Builtin.«zip.__new__» ⟨[.type "zip",.ref l1,.ref l2],[]⟩) (λ_ R s=>zbj b1 s.heap l1 xs/\zbj b2 s.heap l2 ys/\R (.ok (.ret (.ref (zf2 s.heap (yam b1 l1) (yam b2 l2)).objs.size))) { s with heap:=yc8 s.heap (yam b1 l1) (yam b2 l2) }) :=
 .of_wp λprog w A R s h=>by
  obtain⟨hp,g,d,tk,os⟩:=s;obtain⟨hl1,hl2,h⟩:=h;have hsub:=sub_zip;have hL1:zbj b1 (Shared.heap ⟨hp,g,d,tk,os⟩) l1 xs:=hl1;have hL2:zbj b2 (Shared.heap ⟨hp.push (yam b1 l1),g,d,tk,os⟩) l2 ys:=zfK hl2 λo e=>Heap.get?_push_of_some _ e
  wp_walk using ycp hL1,ycp hL2
  exact⟨_,rfl,h⟩
end L2
end
section
namespace L2
open PySem PySem.Spec PyProof.Rows
section
variable {X:Cx}
noncomputable def iZip(K:PySem.W.Frag)(ta:TA):TI:=λσ H R=>ta σ H λvs H1=>Ex4 λb1 b2 a1 a2=>vs=[.ref a1,.ref a2]/\(∃xs,SqB K b1 H1 a1 xs)/\(∃ys,SqB K b2 H1 a2 ys)/\R (Itz K b1 b2 a1 a2) H1
theorem yh8{R:It->Hp->Prop}{kk:Nat}{b1 b2:Bool}(I:Inv X pins σ H s)(h1:SqB X.K b1 H l1 xs)(h2:SqB X.K b2 H l2 ys)(q:R (Itz X.K b1 b2 l1 l2) H) :
  wpAny (model X.prog X.w) X.A (call (.type "zip") [.ref l1,.ref l2]) (λv s1=>wpAny (model X.prog X.w) X.A (pyIter v) (PIE X pins σ (.Tuple elts kk tpos) R) X.xe s1) X.xe s:=by
 obtain⟨us,r1,p1,z1⟩:=I.seqB h1;obtain⟨vs,r2,p2,z2⟩:=I.seqB h2;refine callType_new F.called_zip (by decide) (F.typeCall_zip_2 _ _) (F.newCall_zip_2 _ _) (λobj=>F.args_object_init_3 obj _ _) F.entry_zip_new (zfo b1 b2 l1 l2 us.toArray vs.toArray) ⟨p1,p2,?_⟩;generalize hn:s.heap.objs.size=n;have s1:(s.heap.push (yam b1 l1)).objs.size=n+1:=by rw[Heap.size_push,hn]
 have s2:((s.heap.push (yam b1 l1)).push (yam b2 l2)).objs.size=n+2:=by rw[Heap.size_push,s1]
 have s3:(((s.heap.push (yam b1 l1)).push (yam b2 l2)).push { cls:=.type "tuple",data:=.seq #[.ref s.heap.objs.size,.ref (s.heap.push (yam b1 l1)).objs.size] }).objs.size=n+3:=by rw[Heap.size_push,s2]
 have s4:(zf2 s.heap (yam b1 l1) (yam b2 l2)).objs.size=n+4:=by unfold zf2;rw[Heap.size_push,s3]
 have old:∀b o,s.heap.get? b=some o->(yc8 s.heap (yam b1 l1) (yam b2 l2)).get? b=some o:=λb o e=>Heap.get?_push_of_some _ (Heap.get?_push_of_some _ (Heap.get?_push_of_some _ (Heap.get?_push_of_some _ (Heap.get?_push_of_some _ e))))
 have gz:(yc8 s.heap (yam b1 l1) (yam b2 l2)).get? (n+4)=some { cls:=.type "zip",data:=.fields #[.none,.bool false,.bool false,.ref (n+2),.ref (n+3)] }:=by
  have e:(yc8 s.heap (yam b1 l1) (yam b2 l2)).get? (zf2 s.heap (yam b1 l1) (yam b2 l2)).objs.size=some _:=Heap.get?_push_size _ rfl;rw[s4]at e;rw[e,s2,s3]
 have gO:(yc8 s.heap (yam b1 l1) (yam b2 l2)).get? (n+3)=some { cls:=.type "tuple",data:=.seq #[.none,.none] }:=by
  have e:=Heap.get?_push_size (h:=((s.heap.push (yam b1 l1)).push (yam b2 l2)).push { cls:=.type "tuple",data:=.seq #[.ref s.heap.objs.size,.ref (s.heap.push (yam b1 l1)).objs.size] }) (o:={ cls:=.type "tuple",data:=.seq #[.none,.none] }) rfl;rw[s3]at e;exact Heap.get?_push_of_some _ e
 have gI:(yc8 s.heap (yam b1 l1) (yam b2 l2)).get? (n+2)=some { cls:=.type "tuple",data:=.seq #[.ref n,.ref (n+1)] }:=by
  have e:(yc8 s.heap (yam b1 l1) (yam b2 l2)).get? ((s.heap.push (yam b1 l1)).push (yam b2 l2)).objs.size=some { cls:=.type "tuple",data:=.seq #[.ref s.heap.objs.size,.ref (s.heap.push (yam b1 l1)).objs.size] }:=Heap.get?_push_of_some _ (Heap.get?_push_of_some _ (Heap.get?_push_size _ rfl));rw[s2]at e;rw[e,s1,hn]
 have g2:(yc8 s.heap (yam b1 l1) (yam b2 l2)).get? (n+1)=some (yam b2 l2):=by
  have e:=Heap.get?_push_size (h:=s.heap.push (yam b1 l1)) (o:=yam b2 l2) rfl;rw[s1]at e;exact Heap.get?_push_of_some _ (Heap.get?_push_of_some _ (Heap.get?_push_of_some _ e))
 have g1:(yc8 s.heap (yam b1 l1) (yam b2 l2)).get? n=some (yam b1 l1):=by
  have e:=Heap.get?_push_size (h:=s.heap) (o:=yam b1 l1) rfl;rw[hn]at e;exact Heap.get?_push_of_some _ (Heap.get?_push_of_some _ (Heap.get?_push_of_some _ (Heap.get?_push_of_some _ e)))
 rw[s4];refine⟨⟨_,gz,rfl⟩,wpAny_pyIter_zip gz ?_⟩;have I1:Inv X pins σ H { s with heap:=yc8 s.heap (yam b1 l1) (yam b2 l2) }:=I.kept (t':=s.toks) old;refine⟨n+4,[n+4,n+2,n+3,n,n+1],_,_,H,rfl,I1,zgE b1 b2 (n+4) (n+2) (n+3) n (n+1) l1 l2 (show @Ne Nat _ _ by lia) (show @Ne Nat _ _ by lia),⟨gz,gI,⟨_,_,gO⟩,ycQ _ _ _ _ g1,ycQ _ _ _ _ g2⟩,λb hb=>?_,q⟩;have le:s.heap.objs.size<=b:=by
  rw[hn];simp only[List.mem_cons,List.not_mem_nil,or_false]at hb;show @LE.le Nat _ n b;rcases hb with e|e|e|e|e <;> (have e':@Eq Nat b _:=e;lia)
 exact I.fpOk le (I.hok.fresh le)
theorem yf1{a b:Expr}{ta:TA}{p pos:Pos}{elts:List Expr}{kk:Nat}{tpos:Pos}(hg:Gl X "zip")(hm:X.mg "zip"=none)(ha:PA X [a,b] ta)(hs:starEach [a,b] X.env=[(false,eval a X.env),(false,eval b X.env)]:=by rfl)(hs2:starEach [b] X.env=[(false,eval b X.env)]:=by rfl) :
  PI X (.Tuple elts kk tpos) (.Call (.Name "zip" p) [a,b] [] pos) (iZip X.K ta):=by
 intro pins s σ H R I h;refine Call_ (zbs I hg hm (u:=.type "zip") boot_zip (PyProof.Rows.callWith_type1 (thn (ha pos pins s σ H _ I h) λus s1 ⟨vs,H1,I1,r1,q1⟩=>?_) (by rw[hs,hs2]) (by rw[hs2];rfl)));obtain⟨b1,b2,a1,a2,e,⟨xs,h1⟩,⟨ys,h2⟩,q⟩:=q1;subst e;cases r1 with
 |cons r rr=>
  cases rr with
  |cons r' rr=>
   cases rr;cases r;cases r';exact yh8 I1 h1 h2 q
end
end L2
end
section
namespace L2
open PySem PySem.Spec PyProof.Rows
noncomputable def Ite(K:PySem.W.Frag)(b:Bool)(l:Addr):It :=
 ⟨λi H=>Ex2 λxs x=>SqB K b H l xs/\xs[i]?=some x,
  λi H v H'=>Ex2 λT x=>v = .ref T/\H T=none/\H'=upd H T (.tup [.int i,x])/\(∀xs,SqB K b H l xs->xs[i]?=some x),
  λi H=>∃xs,SqB K b H l xs/\xs.length<=i⟩
theorem yid{P:Program}{w:World}{A:Around}(b:Bool){a l:Addr}{xs:Array Value}(hh:A.handled=none)(ne:l≠a):Draws P w A a [a,l] xs.size (λi v=>xs[i]?=some v) (λk h=>zdD b h a l k/\zbj b h l xs) where
 live:=λk h z=>let ⟨o,e,_⟩:=(subB (P:=P) (w:=w) b hh ne).obj k h z;⟨o,e⟩
 frame:=λk h h' z q=>(subB (P:=P) (w:=w) b hh ne).keep k h h' z q
 item:=λk s Q E hk z q=>by
  have hx:xs[k]?=some xs[k]:=Array.getElem?_eq_getElem hk;exact(subB (P:=P) (w:=w) b hh ne).item k xs[k] s Q E z hx λh' a1 a2=>q xs[k] h' s.toks hx a1 a2
 done:=λs Q E z q=>(subB (P:=P) (w:=w) b hh ne).stop xs.size s Q E z (Array.getElem?_eq_none (Nat.le_refl _)) q
structure ESt(b:Bool)(e it l:Addr)(k:Nat)(h:Heap):Prop where
 en:∃old,IsEnum h e it k old
 it:zdD b h it l k
theorem zgr{P:Program}{w:World}{K:PySem.W.Frag}{elts:List Expr}{kk:Nat}{tpos:Pos}(b:Bool)(e it l:Addr) :
  Turn P w K (.Tuple elts kk tpos) (Ite K b l) [e,it] e (ESt b e it l) where
 mem:=List.mem_cons_self
 obj:=λk h S c hc=>by
  obtain⟨old,he⟩:=S.en;obtain⟨o1,e1,d1,_⟩:=yaT S.it;simp only[List.mem_cons,List.not_mem_nil,or_false]at hc;rcases hc with rfl|rfl
  ·exact⟨_,he,λv q=>by cases q⟩
  ·exact⟨o1,e1,d1⟩
 keep:=λk h h' S q=>by
  obtain⟨old,he⟩:=S.en;exact⟨⟨old,q e (by simp) _ he⟩,zbM S.it λo x=>q it (by simp) o x⟩
 item:=by
  intro X hP hw hK hc i pins s σ H E I hf S hg;subst hP hw hK;obtain⟨xs,x,h1,ex⟩:=hg;obtain⟨us,r1,p1,z1⟩:=I.seqB h1;obtain⟨u,eu,ru⟩:=r1.get ex;obtain⟨old,he⟩:=S.en;obtain⟨o1,e1,_,c1⟩:=yaT S.it;have hh:X.A.handled=none:=I.ok.hd hc;have nl:∀c∈[e,it],l≠c:=λc hc=>I.sq_ne h1 (hf c hc)
  have ei:e≠it:=by rcases c1 with c|c <;> exact yaU he e1 rfl c
  have ilt:i<us.toArray.size:=by
   have:=(List.getElem?_eq_some_iff.mp eu).1
   simpa using this
  refine wpAny_pyNext_enum_itemD (yid b (A:=X.A.in1) hh (nl it (by simp))) he ⟨S.it,p1⟩ ilt ei (by simp only[List.mem_cons,List.not_mem_nil,or_false,not_or];exact⟨ei,Ne.symm (nl e (by simp))⟩) λy g tk hy a1 a2 a3 a4 a5=>?_
  have ey:y=u:=by
   have q1:us[i]?=some y:=by simpa using hy
   rw[eu]at q1;cases q1;rfl
  subst ey;refine⟨_,rfl,wpAny_letOwnedTupleGo_enum (s:={ s with heap:=g,toks:=tk+1 }) a1 λg' he' t=>?_⟩;have lt:∀ {c:Addr} {o:Obj},s.heap.get? c=some o->s.heap.objs.size≠c:=λq=>Nat.ne_of_gt (Heap.lt_size q)
  have k':∀c o,c∉[e,it]->s.heap.get? c=some o->g'.get? c=some o:=λc o hc q=>by
   simp only[List.mem_cons,List.not_mem_nil,or_false,not_or]at hc;exact t.extBut c o hc.1 (a5 c o hc.1 hc.2 q)
  have hS':ESt b e it l (i+1) g':=⟨⟨_,by simpa using he'⟩,zbM a2.1 λo q=>t.extBut _ _ (Ne.symm ei) q⟩
  have fT:H s.heap.objs.size=none:=I.hok.fresh (Nat.le_refl _);have J:Inv X pins σ (upd H s.heap.objs.size (.tup [.int i,x])) { s with heap:=g',toks:=tk+1 } :=
   I.turnedT (t':=tk+1) (fp:=[e,it]) hf k' (Nat.le_refl _) (by show 2<=sizeLine;decide) (its:=#[.int i tk,y]) (.cons ⟨_,rfl⟩ (.cons ru .nil)) ⟨_,t.extBut _ _ (lt he) a3,rfl,_,rfl⟩
  refine⟨.ref s.heap.objs.size,upd H s.heap.objs.size (.tup [.int i,x]),J,rfl,⟨_,x,rfl,fT,rfl,λxs' hx'=>by rw[I.seqB_inj hx' h1];exact ex⟩,hS',λc hc=>?_⟩;have fobj:∃o,s.heap.get? c=some o:=by
   simp only[List.mem_cons,List.not_mem_nil,or_false]at hc;rcases hc with rfl|rfl
   ·exact⟨_,he⟩
   ·exact⟨_,e1⟩
  obtain⟨o,eo⟩:=fobj;rw[zad (Ne.symm (lt eo))];exact(hf c hc).1
 done:=by
  intro X hP hw hK hc i pins s σ H E I hf S hg;subst hP hw hK;obtain⟨xs,h1,le⟩:=hg;obtain⟨us,r1,p1,z1⟩:=I.seqB h1;obtain⟨old,he⟩:=S.en;have hh:X.A.handled=none:=I.ok.hd hc;have nl:∀c∈[e,it],l≠c:=λc hc=>I.sq_ne h1 (hf c hc)
  have D:=subB (P:=X.prog) (w:=X.w) b (A:=X.A.in1) (xs:=us.toArray) hh (nl it (by simp));have hT:s.TypeIs (.ref e) "enumerate":=⟨_,he,rfl⟩
  unfold pyNext;refine wpAny_bind (wpAny_attempt (wpAny_callSpecial?_slot (name:=Str.ofString "__next__") hT F.slot_enumerate_next (wpAny_call_entry F.slot_enumerate_next hT F.entry_enumerate_next ?_ (F.args_enumerate_next_1 _))));show wpAny _ _ (field (.ref e) 2 >>= _) _ _ s;refine wpAny_bind (wpAny_field he rfl (x:=.ref it) rfl ?_);refine wpAny_bind (D.stop i _ _ _ ⟨S.it,p1⟩ (by have:=r1.length;simp;lia) λg x t hq=>?_);obtain⟨o,ho,hce⟩:=hq;refine wpAny_bind (wpAny_isInstance (T:="StopIteration") (b:=true) ⟨o,ho,hce⟩ isSubtype_stop (wpAny_pure ⟨rfl,?_⟩));refine I.turnedL (t':=s.toks) (fp:=[e,it]) hf λc o hc q=>?_
  simp only[List.mem_cons,List.not_mem_nil,or_false,not_or]at hc;exact t c o hc.2 q
 self:=λA i s Q E S h=>let ⟨_,he⟩:=S.en;wpAny_pyIter_enum he h
theorem yeJ(b:Bool)(l:Addr)(xs:Array Value)(n:Nat)(dct:Option Addr)(sl:Array (Option Value)) :
  Meets (Builtin.«enumerate.__new__» ⟨[.type "enumerate",.ref l],[]⟩) (λ_ R s=>s.heap.get? l=some { cls:=.type (if b then "tuple" else "list"),dict:=dct,data:=.seq xs n,slots:=sl }/\R (.ok (.ret (.ref (s.heap.push (yam b l)).objs.size))) { s with heap:=(s.heap.push (yam b l)).push { cls:=.type "enumerate",data:=.fields #[.none,.bool false,.ref s.heap.objs.size,rawInt 0,.none,.none] } }) :=
 .of_wp λprog w A R s h=>by
  obtain⟨hp,g,d,tk,os⟩:=s;obtain⟨hl,h⟩:=h;have hsub:=sub_enumerate;have hL:zbj b (Shared.heap ⟨hp,g,d,tk,os⟩) l xs:=by cases b <;> exact⟨_,hl,rfl,n,rfl⟩
  wp_walk using wpAny_loadPart' hl;(refine wpAny_stack_any λst=>wpAny_pure ?_);split
  ·rename_i c _ _ _ _ _;cases (c==Value.type "enumerate") <;> (wp_walk using wpAny_loadPart' hl,ycp hL;exact⟨_,rfl,h⟩)
  ·wp_walk using wpAny_loadPart' hl,ycp hL;exact⟨_,rfl,h⟩
theorem yeB{b:Bool}(x:zbj b h l xs):Ex3 λn dct sl=>h.get? l=some { cls:=.type (if b then "tuple" else "list"),dict:=dct,data:=.seq xs n,slots:=sl }:=by
 cases b <;> obtain⟨⟨c,dct,dt,sl⟩,e,hc,n,hd⟩:=x
 ·replace hc:c = .type "list":=hc
  replace hd:dt = .seq xs n:=hd
  subst hc hd;exact⟨n,dct,sl,e⟩
 ·replace hc:c = .type "tuple":=hc
  replace hd:dt = .seq xs n:=hd
  subst hc hd;exact⟨n,dct,sl,e⟩
section
variable {X:Cx}
noncomputable def yiC(K:PySem.W.Frag)(ta:TA):TI:=λσ H R=>ta σ H λvs H1=>Ex2 λb a=>vs=[.ref a]/\(∃xs,SqB K b H1 a xs)/\R (Ite K b a) H1
theorem yhH{R:It->Hp->Prop}{kk:Nat}{b:Bool}(I:Inv X pins σ H s)(h1:SqB X.K b H l xs)(q:R (Ite X.K b l) H) :
  wpAny (model X.prog X.w) X.A (call (.type "enumerate") [.ref l]) (λv s1=>wpAny (model X.prog X.w) X.A (pyIter v) (PIE X pins σ (.Tuple elts kk tpos) R) X.xe s1) X.xe s:=by
 obtain⟨us,r1,p1,z1⟩:=I.seqB h1;obtain⟨m,dct,sl,hl⟩:=yeB p1;refine callType_new F.called_enumerate (by decide) (F.typeCall_enumerate_1 _) (F.newCall_enumerate_1 _) (λobj=>F.args_object_init_2 obj _) F.entry_enumerate_new (yeJ b l us.toArray m dct sl) ⟨hl,?_⟩;generalize hn:s.heap.objs.size=n;have s1:(s.heap.push (yam b l)).objs.size=n+1:=by rw[Heap.size_push,hn]
 generalize hG:(s.heap.push (yam b l)).push { cls:=.type "enumerate",data:=.fields #[.none,.bool false,.ref n,rawInt 0,.none,.none] }=G;have old:∀c o,s.heap.get? c=some o->G.get? c=some o:=λc o e=>hG ▸ Heap.get?_push_of_some _ (Heap.get?_push_of_some _ e)
 have ge:IsEnum G (n+1) n 0 .none:=by
  have e:G.get? (s.heap.push (yam b l)).objs.size=some { cls:=.type "enumerate",data:=.fields #[.none,.bool false,.ref n,rawInt 0,.none,.none] }:=hG ▸ Heap.get?_push_size _ rfl;rw[s1]at e;exact e
 have gi:G.get? n=some (yam b l):=by
  have e:G.get? s.heap.objs.size=some (yam b l):=hG ▸ Heap.get?_push_of_some _ (Heap.get?_push_size _ rfl);rw[hn]at e;exact e
 rw[s1];refine⟨⟨_,ge,rfl⟩,wpAny_pyIter_enum ge ?_⟩;have I1:Inv X pins σ H { s with heap:=G }:=I.kept (t':=s.toks) old;refine⟨n+1,[n+1,n],_,_,H,rfl,I1,zgr b (n+1) n l,⟨⟨_,ge⟩,ycQ _ _ _ _ gi⟩,λc hc=>?_,q⟩;have le:s.heap.objs.size<=c:=by
  rw[hn];simp only[List.mem_cons,List.not_mem_nil,or_false]at hc;show @LE.le Nat _ n c;rcases hc with e|e <;> (have e':@Eq Nat c _:=e;lia)
 exact I.fpOk le (I.hok.fresh le)
theorem ybw{a:Expr}{ta:TA}{p pos:Pos}{elts:List Expr}{kk:Nat}{tpos:Pos}(hg:Gl X "enumerate")(hm:X.mg "enumerate"=none)(ha:PA X [a] ta)(hs:starEach [a] X.env=[(false,eval a X.env)]:=by rfl) :
  PI X (.Tuple elts kk tpos) (.Call (.Name "enumerate" p) [a] [] pos) (yiC X.K ta):=by
 intro pins s σ H R I h;refine Call_ (zbs I hg hm (u:=.type "enumerate") boot_enumerate (PyProof.Rows.callWith_type1 (thn (ha pos pins s σ H _ I h) λus s1 ⟨vs,H1,I1,r1,q1⟩=>?_) hs rfl));obtain⟨b,a,e,⟨xs,h1⟩,q⟩:=q1;subst e;cases r1 with
 |cons r rr=>
  cases rr;cases r;exact yhH I1 h1 q
end
structure Seqs(J:It)(n:Nat)(G:Hp->Prop)(y:Nat->V->Hp->Hp->Prop):Prop where
 go:∀i H,i<n->G H->J.go i H
 stop:∀H,G H->J.stop n H
 yld:∀i H x H',i<n->G H->J.yld i H x H'->y i x H H'
theorem yaH{K:PySem.W.Frag}{xs:List V}:Seqs (Itl K a) xs.length (λH=>SqL K H a xs) (λi x H H'=>H'=H/\xs[i]?=some x) :=
 ⟨λi H hi g=>⟨xs,xs[i],g,by simp[hi]⟩,λH g=>⟨xs,g,Nat.le_refl _⟩,λi H x H' hi g q=>⟨q.1,q.2 xs g⟩⟩
theorem zaW{K:PySem.W.Frag}{xs:List V}:Seqs (Itt K a) xs.length (λH=>SqT K H a xs) (λi x H H'=>H'=H/\xs[i]?=some x) :=
 ⟨λi H hi g=>⟨xs,xs[i],g,by simp[hi]⟩,λH g=>⟨xs,g,Nat.le_refl _⟩,λi H x H' hi g q=>⟨q.1,q.2 xs g⟩⟩
theorem za0{lo:Int}{n:Nat}:Seqs (Itr lo n) n (λ_=>True) (λi x H H'=>H'=H/\x = .int (lo+i)) :=
 ⟨λi H hi _=>hi,λH _=>Nat.le_refl _,λi H x H' hi _ q=>q⟩
theorem ydK{K:PySem.W.Frag}{b1 b2:Bool}{xs ys:List V}:Seqs (Itz K b1 b2 l1 l2) (min xs.length ys.length) (λH=>SqB K b1 H l1 xs/\SqB K b2 H l2 ys)
  (λi x H H'=>Ex3 λT u v=>x = .ref T/\xs[i]?=some u/\ys[i]?=some v/\H T=none/\H'=upd H T (.tup [u,v])) :=
 ⟨λi H hi g=>⟨xs,ys,xs[i]'(by lia),ys[i]'(by lia),g.1,g.2,by simp,by simp⟩,
  λH g=>⟨xs,ys,g.1,g.2,by lia⟩,
  λi H x H' hi g ⟨T,u,v,e1,e2,e3,e4,e5⟩=>⟨T,u,v,e1,e4 xs g.1,e5 ys g.2,e2,e3⟩⟩
theorem zaV{K:PySem.W.Frag}{b:Bool}{l:Addr}{xs:List V}:Seqs (Ite K b l) xs.length (λH=>SqB K b H l xs)
  (λi x H H'=>Ex2 λT u=>x = .ref T/\xs[i]?=some u/\H T=none/\H'=upd H T (.tup [.int i,u])) :=
 ⟨λi H hi g=>⟨xs,xs[i],g,by simp[hi]⟩,λH g=>⟨xs,g,Nat.le_refl _⟩,λi H x H' hi g ⟨T,u,e1,e2,e3,e4⟩=>⟨T,u,e1,e4 xs g,e2,e3⟩⟩
theorem yaG{J:It}{n:Nat}{G:Hp->Prop}{y:Nat->V->Hp->Hp->Prop}(S:Seqs J n G y){g:TG}{tb:TS}{D:Ends}{σ:St}{H:Hp}(Pv:Nat->St->Hp->Prop)(h0:Pv 0 σ H)(hl:∀i σ H,i<=n->Pv i σ H->G H)
  (hs:∀i x σ H H',i<n->Pv i σ H->y i x H H'->g x σ H' λσ2 H2=>tb { D with nx:=Pv (i+1),ct:=Pv (i+1),bk:=D.nx } σ2 H2) (hd:∀σ H,Pv n σ H->D.nx σ H) :
  ∃W:Nat->Nat->St->Hp->Prop,(∃m,W 0 m σ H)/\∀i m σ H,W i m σ H->
   (J.stop i H/\D.nx σ H)\/(J.go i H/\∃N:St->Hp->Prop,(∀σ' H',N σ' H'->∃m',m'<m/\W (i+1) m' σ' H')/\∀x H',J.yld i H x H'->g x σ H' λσ2 H2=>tb { D with nx:=N,ct:=N,bk:=D.nx } σ2 H2):=by
 refine⟨λi m σ H=>m=n-i/\i<=n/\Pv i σ H,⟨n,by simp,Nat.zero_le _,h0⟩,?_⟩;rintro i m σ H ⟨rfl,hi,p⟩;by_cases hlt:i<n
 ·exact .inr ⟨S.go i H hlt (hl i σ H hi p),Pv (i+1),λσ' H' p'=>⟨n-(i+1),by lia,rfl,hlt,p'⟩,λx H' q=>hs i x σ H H' hlt p (S.yld i H x H' hlt (hl i σ H hi p) q)⟩
 ·have e:i=n:=by lia
  subst e;exact .inl ⟨S.stop H (hl _ σ H hi p),hd σ H p⟩
theorem zan{J:It}{n:Nat}{G:Hp->Prop}{y:Nat->V->Hp->Hp->Prop}(S:Seqs J n G y){σc:St}{g:TG}{ti:TT}{te:TE}{H:Hp}{Fn:List V->Hp->Prop}(Pv:Nat->List V->Hp->Prop)(h0:Pv 0 [] H)(hl:∀i acc H,i<=n->Pv i acc H->G H)
  (hz:∀i acc H,i<n->Pv i acc H->acc.length<sizeLine)
  (hs:∀i acc x H H',i<n->Pv i acc H->y i x H H'->g x σc H' λσ2 H2=>ti σ2 H2 λb H3=>if b=true then te σ2 H3 λv H4=>Pv (i+1) (acc++[v]) H4 else Pv (i+1) acc H3)
  (hd:∀acc H,Pv n acc H->Fn acc H) :
  ∃W:ygC,(∃m,W 0 m [] H)/\∀i m acc H,W i m acc H->
   (J.stop i H/\Fn acc H)\/
   (J.go i H/\acc.length<sizeLine/\∃N:List V->Hp->Prop,(∀acc' H',N acc' H'->∃m',m'<m/\W (i+1) m' acc' H')/\∀x H',J.yld i H x H'->g x σc H' λσ2 H2=>ti σ2 H2 λb H3=>if b=true then te σ2 H3 λv H4=>N (acc++[v]) H4 else N acc H3):=by
 refine⟨λi m acc H=>m=n-i/\i<=n/\Pv i acc H,⟨n,by simp,Nat.zero_le _,h0⟩,?_⟩;rintro i m acc H ⟨rfl,hi,p⟩;by_cases hlt:i<n
 ·exact .inr ⟨S.go i H hlt (hl i acc H hi p),hz i acc H hlt p,Pv (i+1),λacc' H' p'=>⟨n-(i+1),by lia,rfl,hlt,p'⟩,λx H' q=>hs i acc x H H' hlt p (S.yld i H x H' hlt (hl i acc H hi p) q)⟩
 ·have e:i=n:=by lia
  subst e;exact .inl ⟨S.stop H (hl _ acc H hi p),hd acc H p⟩
end L2
end
section
namespace L2
open PySem PySem.Spec PyProof.Rows
section
variable {X:Cx}
def CDv(i j:Int):Prop:=0<j/\j<2^64
theorem CDv.log{i j:Int}(h:CDv i j):j.natAbs.log2<9000:=by
 obtain⟨h1,h2⟩:=h;have h0:j.natAbs≠0:=by lia
 have:j.natAbs<2^64:=by lia
 exact Nat.lt_of_lt_of_le ((Nat.log2_lt h0).mpr this) (by decide)
theorem zcl:OpR X (binaryOp .FloorDiv) (rI CDv λi j=>.int (i/j)):=opI λi j _ _ _ _ _ hc q=>by
 have h1:(0:Int)<j:=hc.1;exact floordiv_int (by lia) (by rw[Int.fdiv_eq_ediv_of_nonneg i (by lia)];exact q) (.inl (PyProof.noPylong_of_log2 hc.log))
def CDvB(i j:Int):Prop:=0<j/\j<2^1000
theorem CDvB.log{i j:Int}(h:CDvB i j):j.natAbs.log2<9000:=by
 obtain⟨h1,h2⟩:=h;have h0:j.natAbs≠0:=by lia
 have:j.natAbs<2^1000:=by lia
 exact Nat.lt_of_lt_of_le ((Nat.log2_lt h0).mpr this) (by decide)
theorem zhf:OpR X (binaryOp .FloorDiv) (rI CDvB λi j=>.int (i/j)):=opI λi j _ _ _ _ _ hc q=>by
 have h1:(0:Int)<j:=hc.1;exact floordiv_int (by lia) (by rw[Int.fdiv_eq_ediv_of_nonneg i (by lia)];exact q) (.inl (PyProof.noPylong_of_log2 hc.log))
theorem zcA:OpR X (inplaceOp .FloorDiv) (rI CDv λi j=>.int (i/j)):=opI λi j _ _ _ _ _ hc q=>by
 have h1:(0:Int)<j:=hc.1;exact ifloordiv_int (by lia) (by rw[Int.fdiv_eq_ediv_of_nonneg i (by lia)];exact q) (.inl (PyProof.noPylong_of_log2 hc.log))
theorem zho:OpR X (binaryOp .Mult) (rI IntMulOk λi j=>.int (i*j)):=opI λ_ _ _ _ _ _ _ hc q=>mul_int q hc
noncomputable def rNeE(K:PySem.W.Frag):R2:=λx y H Q=>Ex3 λa b xs=>x = .ref a/\y = .ref b/\SqL K H a xs/\SqL K H b []/\Q (.bl (!xs.isEmpty)) H
theorem yg6(hu:X.A.units<cLine):OpR X (compareOp .NotEq) (rNeE X.K):=by
 intro pins s σ H x y v u Q I rx ry h;obtain⟨a,b,xs,rfl,rfl,ha,hb,q⟩:=h;cases rx;cases ry;obtain⟨us,r1,p1,z1⟩:=I.list ha;obtain⟨vs,r2,p2,z2⟩:=I.list hb;cases r2;cases xs with
 |nil=>
  cases r1;exact SeqAt.RcNeAt.lists (e:=λ_=>true) p1.isList p2.isList rfl hu (λj h1 _=>absurd h1 (by simp)) _ _ _ _ ⟨.bl false,H,I,rfl,q⟩
 |cons x xs=>
  cases r1;exact SeqAt.RcNeAt.lists_lengths p1.isList p2.isList (by simp) hu _ _ _ _ ⟨.bl true,H,I,rfl,q⟩
noncomputable def tRev(K:PySem.W.Frag)(te:TE):TE:=λσ H Q=>te σ H λx H1=>Ex2 λa xs=>x = .ref a/\SqL K H1 a xs/\∀p,H1 p=none->Q (.ref p) (upd H1 p (.lst xs.reverse))
theorem zh5{e:Expr}{te:TE}{p0 p1 p2 pos:Pos}{j}(he:PE X e te):PE X (.Subscript e (.Slice none none (some (.UnaryOp .USub (.Constant (.int 1) j p0) p1)) p2) pos) (tRev X.K te):=by
 intro pins s σ H Q I h;refine Subscript_ (thn (he pins s σ H _ I h) λv s1 hq=>?_);obtain⟨x,H1,I1,r1,q1⟩:=hq;obtain⟨a,xs,rfl,hx,q⟩:=q1;cases r1;refine wpAny_Slice ?_;rw[evalPart_none];refine wpAny_pure ?_;refine wpAny_pure ?_;rw[evalPart_some];refine thn ((yfk ydh (yab (X:=X))) pins s1 σ H1 (λv H'=>v = .int (-1)/\H'=H1) I1 ⟨1,rfl,rfl,rfl⟩) λst s2 hq=>?_
 obtain⟨v,H2,I2,r2,e1,e2⟩:=hq;subst e1 e2;obtain⟨t,rfl⟩:=r2;have I4:Inv X pins σ H2 { s2 with heap:=s2.heap.push { cls:=.type "slice",data:=.fields #[.none,.none,.int (-1) t] } }:=I2.kept (t':=s2.toks) λb ob q=>Heap.get?_push_of_some _ q
 obtain⟨its,r,ht,hz⟩:=I4.list hx;have hlen:=r.length;show wpAny (model X.prog X.w) X.A (subscriptTail e _ (.ref a) (.ref s2.heap.objs.size)) (EP X pins σ Q) X.xe { s2 with heap:=s2.heap.push { cls:=.type "slice",data:=.fields #[.none,.none,.int (-1) t] } };refine tail_any (ops:=[.ref a,.ref s2.heap.objs.size]) ht.isList.typeIs slot_list_getitem.lookup ?_ (by with_unfolding_all rfl);refine wpAny_getItem_list_slice ht.isList (Heap.IsSliceOf.new ..) .none .none (.int (-1) t) (by simp) ?_ (by rw[List.size_toArray];lia);rw[PySem.W.krv_pick];refine⟨.ref _,_,I4.laid (t':=s2.toks) (o:=.lst xs.reverse) (λb ob q=>Heap.get?_push_of_some _ q) (Nat.le_refl _) ?_,rfl,q _ (I4.hok.fresh (Nat.le_refl _))⟩;exact⟨by rw[List.length_reverse];exact hz,its.reverse,0,r.reverse,Heap.get?_push_size _ rfl⟩
theorem yc9:∀ {bs:List Bool} {us:List Value},Vals (bs.map V.bl) us->us=bs.map Value.bool
 | [],_,.nil=>rfl
 |b::bs,_,.cons r t=>by cases r;rw[yc9 t];rfl
theorem zf4(bs:List Bool):(List.range bs.length).all (λi=>bs.getD i true)=bs.all id:=by
 induction bs with
 |nil=>rfl
 |cons b bs ih=>
  rw[List.length_cons,List.range_succ_eq_map,List.all_cons,List.all_cons,List.all_map];show((b::bs).getD 0 true&&_)=_;rw[List.getD_cons_zero];congr 1
noncomputable def yiM(K:PySem.W.Frag)(f:List Bool->Bool):List V->Hp->VK->Prop:=λxs H Q=>Ex2 λa bs=>xs=[.ref a]/\SqL K H a (bs.map V.bl)/\Q (.bl (f bs)) H
theorem zel{bs:List Bool}:TruthOf P w A (λi v=>(bs.map Value.bool).toArray[i]?=some v) (λi=>bs.getD i true):=by
 intro i v s Q E hv q;have hv':bs[i]?.map Value.bool=some v:=by simpa using hv
 cases e:bs[i]? with
 |none=>rw[e]at hv';cases hv'
 |some b=>
  rw[e]at hv';cases hv';have e2:bs.getD i true=b:=by simp[List.getD,e]
  have q':Q (bs.getD i true) s:=q;rw[e2]at q';exact wpAny_truthy_bool q'
theorem ze4(hc:X.calm=true):ya4 X (.builtin "all") (yiM X.K λbs=>bs.all id):=by
 intro pins s σ H xs us Q I r h;obtain⟨a,bs,rfl,ha,q⟩:=h;obtain⟨u,rfl,rx⟩:=zcg r;cases rx;obtain⟨its,r1,p1,z1⟩:=I.list ha;have e:=yc9 r1;subst e;refine call_all_walk (wpAny_pyIter_list p1.isList ?_);have hh:X.A.in1.handled=none:=I.ok.hd hc;have ne:a≠s.heap.objs.size:=λz=>by obtain⟨o,n,e,_⟩:=p1;have l:s.heap.objs.size>=Nat.succ a:=Heap.lt_size e;have z':@Eq Nat a s.heap.objs.size:=z;lia
 refine⟨_,_,_,_,_,_,_,rfl,Walks.list hh s.heap.objs.size a ne _,⟨⟨_,Heap.get?_push_size _ rfl,rfl,rfl⟩,p1.isList.push _⟩,zel,λh' tk k=>?_⟩;have I1:Inv X pins σ H { s with heap:=h',toks:=tk }:=I.kept λb o e=>k b o (by simp only[List.mem_singleton];exact Nat.ne_of_lt (Heap.lt_size e)) (Heap.get?_push_of_some _ e)
 refine⟨.bl _,H,I1,?_,q⟩;show Value.bool _=Value.bool _;congr 1;have:=zf4 bs
 simpa using this
noncomputable def yiN(K:PySem.W.Frag)(H:Hp):V->String->Prop
 | .non,T=>T = "NoneType"
 | .bl _,T=>T = "bool"
 | .int _,T=>T = "int"
 | .str _,T=>T = "str"
 | .ref a,T=>(T = "list"/\∃xs,SqL K H a xs)\/(T = "tuple"/\∃xs,SqT K H a xs)
 |_,_=>False
def subK(T U:String):Bool:=T==U||(T=="bool"&&U=="int")
noncomputable def rIsi(K:PySem.W.Frag)(U:String):List V->Hp->VK->Prop:=λxs H Q=>Ex2 λx T=>xs=[x,.ty U]/\yiN K H x T/\Q (.bl (subK T U)) H
theorem ycf{T U:String}(h:subK T U=false):(Value.type T==Value.type U)=false:=by
 have:T≠U:=λe=>by subst e;simp[subK]at h
 simpa using this
theorem zdx{U:String}(hty:typeOf (.type U)=pure (.type "type"))(hs:∀T∈["NoneType","bool","int","str","list","tuple"],isSubtype (.type T) (.type U)=pure (subK T U)):ya4 X (.builtin "isinstance") (rIsi X.K U):=by
 intro pins s σ H xs us Q I r h;obtain⟨x,T,rfl,hk,q⟩:=h;obtain⟨u,w',rfl,rx,ry⟩:=zhU r;cases ry;have yes:∀ {v:Value},subK T U=true->s.TypeIs v T->T∈["NoneType","bool","int","str","list","tuple"]->wpAny (model X.prog X.w) X.A (call (.builtin "isinstance") [v,.type U]) (EP X pins σ Q) X.xe s:=λ{v} hb ht hm=>
  call_isinstance_yes ht hty (by rw[hs T hm,hb]) ⟨.bl true,H,I,rfl,by rw[<-hb];exact q⟩
 have no:∀t,subK T U=false->EP X pins σ Q (.bool false) { s with toks:=t }:=λt hb=>⟨.bl false,H,I.tok _,rfl,by rw[<-hb];exact q⟩
 cases x with
 |non=>
  cases rx;obtain rfl:T = "NoneType":=hk;cases hb:subK "NoneType" U with
  |true=>exact yes hb rfl (by simp)
  |false=>exact call_isinstance (isinstance_false_none (ycf hb) hty (by rw[hs _ (by simp),hb])) (no _ hb)
 |bl b=>
  cases rx;obtain rfl:T = "bool":=hk;cases hb:subK "bool" U with
  |true=>exact yes hb rfl (by simp)
  |false=>exact call_isinstance (isinstance_false_bool (ycf hb) hty (by rw[hs _ (by simp),hb])) (no _ hb)
 |int i=>
  obtain⟨t,rfl⟩:=rx;obtain rfl:T = "int":=hk;cases hb:subK "int" U with
  |true=>exact yes hb (typeIs_int s i t) (by simp)
  |false=>exact call_isinstance (isinstance_false_int (ycf hb) hty (by rw[hs _ (by simp),hb])) (no _ hb)
 |str i=>
  obtain⟨t,rfl⟩:=rx;obtain rfl:T = "str":=hk;cases hb:subK "str" U with
  |true=>exact yes hb rfl (by simp)
  |false=>exact call_isinstance (isinstance_false_str (ycf hb) hty (by rw[hs _ (by simp),hb])) (no _ hb)
 |ref a=>
  cases rx;rcases hk with⟨rfl,xs,hx⟩ |⟨rfl,xs,hx⟩
  ·obtain⟨its,r1,p1,z1⟩:=I.list hx;cases hb:subK "list" U with
   |true=>exact yes hb p1.isList.typeIs (by simp)
   |false=>exact call_isinstance (isinstance_false_list (ycf hb) hty (by rw[hs _ (by simp),hb])) ⟨let ⟨o,e,c,_⟩:=p1.isList;⟨o,e,c⟩,no _ hb⟩
  ·obtain⟨its,r1,p1,z1⟩:=I.tuple hx;cases hb:subK "tuple" U with
   |true=>exact yes hb (show s.TypeIs (.ref a) "tuple" from let ⟨o,e,c,_⟩:=p1;⟨o,e,c⟩) (by simp)
   |false=>exact call_isinstance (isinstance_false_tuple (ycf hb) hty (by rw[hs _ (by simp),hb])) ⟨let ⟨o,e,c,_⟩:=p1;⟨o,e,c⟩,no _ hb⟩
 |_=>exact False.elim hk
theorem zhV:ya4 X (.builtin "isinstance") (rIsi X.K "int"):=zdx ⋯ (by intro T hT;simp only[List.mem_cons,List.not_mem_nil,or_false]at hT;rcases hT with rfl|rfl|rfl|rfl|rfl|rfl <;> (rw[isSubtype_type];kernel_rfl))
theorem zg1:ya4 X (.builtin "isinstance") (rIsi X.K "bool"):=zdx ⋯ (by intro T hT;simp only[List.mem_cons,List.not_mem_nil,or_false]at hT;rcases hT with rfl|rfl|rfl|rfl|rfl|rfl <;> (rw[isSubtype_type];kernel_rfl))
theorem yfT:ya4 X (.builtin "isinstance") (rIsi X.K "tuple"):=zdx ⋯ (by intro T hT;simp only[List.mem_cons,List.not_mem_nil,or_false]at hT;rcases hT with rfl|rfl|rfl|rfl|rfl|rfl <;> (rw[isSubtype_type];kernel_rfl))
def Itd(hi:Int)(n:Nat):It:=⟨λi _=>i<n,λi H x H'=>H'=H/\x = .int (hi-i),λi _=>n<=i⟩
theorem zee{P:Program}{w:World}{K:PySem.W.Frag}{tg:Expr}(it:Addr)(hi:Int)(n:Nat):Turn P w K tg (Itd hi n) [it] it (λi h=>IsRangeIter h it (hi+(i:Nat)*(-1)) ((n:Int)-(i:Nat)) (-1)) where
 mem:=by simp
 obj:=λi h st b hb=>by
  have e:b=it:=by simpa using hb
  subst e;exact⟨_,st,λv z=>by have z':Data.fields _=Data.cell v:=z;cases z'⟩
 keep:=λi h h' st k=>k it (by simp) _ st
 item:=by
  intro X hP hw hK hc i pins s σ H E I hf st hg;subst hP hw hK;obtain⟨f0,f1,f2,f3,f4,f5⟩:=hf it (by simp);have W:=Walks.range (prog:=X.prog) (w:=X.w) (I.ok.hd hc) it hi (-1) n;refine W.item i s _ _ hg st λv h' tk hv st' kk=>?_
  obtain⟨t,rfl⟩:=hv;have I1:Inv X pins σ H { s with heap:=h',toks:=tk }:=I.turned (λb o hb e=>kk b o (by simpa using hb) e) f0 f1 f3 f4 f5;refine⟨_,rfl,zgJ (s:={ s with heap:=h',toks:=tk }) (n:="range_iterator") st' rfl rfl (by decide) ⟨.int (hi-i),H,I1,⟨t,?_⟩,⟨rfl,rfl⟩,st',λb hb=>(hf b hb).1⟩⟩;congr 1;lia
 done:=by
  intro X hP hw hK hc i pins s σ H E I hf st hg;subst hP hw hK;obtain⟨f0,f1,f2,f3,f4,f5⟩:=hf it (by simp);exact wpAny_pyNext_range_end (I.ok.hd hc) st (by have:n<=i:=hg;lia) λh' eb=>⟨rfl,I.turned (t':=s.toks) (λb o hb e=>eb b o hb e) f0 f1 f3 f4 f5⟩
 self:=λ_ _ _ _ _ st h=>wpAny_pyIter_rangeiter st h
theorem yed{hi:Int}{n:Nat}:Seqs (Itd hi n) n (λ_=>True) (λi x H H'=>H'=H/\x = .int (hi-i)) :=
 ⟨λi H hi _=>hi,λH _=>Nat.le_refl _,λi H x H' hi _ q=>q⟩
noncomputable def yiQ(ta:TA):TI:=λσ H R=>ta σ H λvs H1=>Ex2 λ(i j:Int)=>vs=[.int i,.int j,.int (-1)]/\(-(2^62)<=i/\i<2^62/\-(2^62)<=j/\j<2^62)/\R (Itd i (i-j).toNat) H1
theorem zhi{a b c:Expr}{ta:TA}{tg:Expr}{p pos:Pos}(hg:Gl X "range")(hm:X.mg "range"=none)(ha:PA X [a,b,c] ta)(hs:starEach [a,b,c] X.env=(false,eval a X.env)::starEach [b,c] X.env:=by rfl)(hs2:(backTo pos (starEach [b,c] X.env)).any (·.1)=false:=by rfl) :
  PI X tg (.Call (.Name "range" p) [a,b,c] [] pos) (yiQ ta):=by
 intro pins s σ H R I h;refine Call_ (zbs I hg hm boot_range (PyProof.Rows.callWith_type1 (thn (ha pos pins s σ H _ I h) λus s1 ⟨vs,H1,I1,r1,q1⟩=>?_) hs hs2));obtain⟨i,j,e,⟨b1,b2,b3,b4⟩,q⟩:=q1;subst e;cases r1 with
 |cons r rr=>
  cases rr with
  |cons r' rr=>
   cases rr with
   |cons r'' rr=>
    cases rr;obtain⟨t,rfl⟩:=r;obtain⟨t',rfl⟩:=r';obtain⟨t'',rfl⟩:=r'';refine call_range_3 (by decide) ?_ (.inl (PyProof.noPylong_small (by decide)));refine wpAny_pyIter_range (IsRange.new ..) (PySem.W.small_down b1 b2 b3 b4) ?_;generalize hG:s1.heap.push { cls:=.type "range",data:=.fields #[.int i t,.int j t',.int (-1) t''] }=G;have I2:Inv X pins σ H1 { s1 with heap:=G }:=I1.kept (t':=s1.toks) λb o e=>hG ▸ Heap.get?_push_of_some _ e
    refine⟨G.objs.size,[G.objs.size],_,_,H1,rfl,I2.kept (t':=s1.toks) λb o e=>Heap.get?_push_of_some _ e,zee _ i (i-j).toNat,?_,λb hb=>?_,q⟩
    ·have e1:i+((0:Nat):Int)*(-1)=i:=by simp
     have e2:(((i-j).toNat:Nat):Int)-((0:Nat):Int)=Builtin.Range.rangeSize i j (-1):=by rw[PySem.W.rangeSize_downNat];simp
     show IsRangeIter _ _ (i+((0:Nat):Int)*(-1)) ((((i-j).toNat:Nat):Int)-((0:Nat):Int)) (-1);rw[e1,e2];exact Heap.get?_push_size _ rfl
    ·have e:b=G.objs.size:=by simpa using hb
     subst e;exact I2.fpOk (Nat.le_refl _) (I2.hok.fresh (Nat.le_refl _))
def tRng(ta:TA):TE:=λσ H Q=>ta σ H λvs H1=>∃j:Int,vs=[.int j]/\∀p,H1 p=none->Q (.ref p) (upd H1 p (.rng 0 j))
theorem zcD{a:Expr}{ta:TA}{p pos:Pos}(hg:Gl X "range")(hm:X.mg "range"=none)(ha:PA X [a] ta)(hs:starEach [a] X.env=[(false,eval a X.env)]:=by rfl):PE X (.Call (.Name "range" p) [a] [] pos) (tRng ta):=by
 intro pins s σ H Q I h;refine Call_ (zbs I hg hm boot_range (PyProof.Rows.callWith_type1 (thn (ha pos pins s σ H _ I h) λus s1 ⟨vs,H1,I1,r1,q1⟩=>?_) hs rfl));obtain⟨j,e,q⟩:=q1;subst e;cases r1 with
 |cons r rr=>
  cases rr;obtain⟨t,rfl⟩:=r;exact call_range_1 ⟨.ref _,_,I1.laid (o:=.rng 0 j) (λb o e=>Heap.get?_push_of_some _ e) (Nat.le_refl _) ⟨_,_,_,Heap.get?_push_size _ rfl⟩,rfl,q _ I1.fresh⟩
def intsFrom(lo:Int)(n:Nat):List V:=(List.range n).map λ(i:Nat)=>V.int (lo+(i:Int))
theorem ycO:∀ {xs:List V} {us:List Value},xs.length=us.length->(∀(i:Nat) x u,xs[i]?=some x->us[i]?=some u->RelV x u)->Vals xs us
 | [],[],_,_=>.nil
 | [],_::_,h,_=>by simp at h
 |_::_,[],h,_=>by simp at h
 |x::xs,u::us,h,g=>.cons (g 0 x u rfl rfl) (ycO (by simpa using h) λi y v e1 e2=>g (i+1) y v (by simpa using e1) (by simpa using e2))
theorem zdT{lo:Int}{n:Nat}(h:ItemsOf (λi v=>∃t,v = .int (lo+i*1) t) acc n):Vals (intsFrom lo n) acc.toList:=by
 refine ycO (by simp[intsFrom,h.1]) λi x u e1 e2=>?_
 obtain⟨t,rfl⟩:=h.2 i u (by simpa using e2);have:x=V.int (lo+i):=by
  unfold intsFrom at e1;rw[List.getElem?_map]at e1;cases hr:(List.range n)[i]? with
  |none=>rw[hr]at e1;cases e1
  |some j=>
   rw[hr]at e1;have:j=i:=by
    obtain⟨h1,h2⟩:=List.getElem?_eq_some_iff.mp hr
    simpa using h2.symm
   subst this;exact(Option.some.inj e1).symm
 subst this;exact⟨t,by simp⟩
theorem ybY(hc:X.calm=true):ya4 X (.type "list") (λxs H Q=>Ex3 λp lo hi=>xs=[.ref p]/\H p=some (.rng lo hi)/\(-(2^62)<=lo/\lo<2^62/\-(2^62)<=hi/\hi<2^62)/\(hi-lo).toNat<=sizeLine/\∀l,H l=none->Q (.ref l) (upd H l (.lst (intsFrom lo (hi-lo).toNat)))):=by
 intro pins s σ H xs us Q I r h;obtain⟨p,lo,hi,rfl,hp,⟨b1,b2,b3,b4⟩,hz,q⟩:=h;obtain⟨u,rfl,rx⟩:=zcg r;cases rx;obtain⟨t,u,v,e⟩:=I.hok p _ hp;refine call_list_range (n:=(hi-lo).toNat) (I.ok.hd hc) e (small_one b1 b2 b3 b4) (by rw[rangeSize_one];split <;> lia) (by have:=sizeLine_eq;lia) λh' tk acc c k ho hi'=>?_
 have rv:=zdT hi';refine⟨.ref _,_,I.laid (t':=tk) k (Nat.le_refl _) (show za5 X.prog X.w _ h' _ (.lst (intsFrom lo (hi-lo).toNat)) from⟨?_,acc.toList,c,rv,by simpa using ho⟩),rfl,q _ I.fresh⟩
 simpa[intsFrom]using hz
noncomputable def Has(P:Program)(w:World)(K:PySem.W.Frag)(mg:Str->Option Value)(base:Heap)(n:Nat)(x:Str)(ps:List Str)(sp:Sp):Prop :=
 Ex2 λf fd=>FnOk P w K mg base CX0 n f fd ps sp/\zfl K fd ps []/\PySem.W.keepIn K (.ref f)=true/\mg x=some (.ref f)
theorem zdo{n k:Nat}{x:Str}{ps:List Str}{sp:Sp}{e:Expr}{es:List Expr}{t:TA}{p pos:Pos}(h:Has X.prog X.w X.K X.mg X.base n x ps sp)(hr:Room k X.A)(hle:n<=k)(hg:Gl X x)(ha:PA X (e::es) t)
  (hdb:(x==("__debug__":Str))=false:=by decide) (he:starEach (e::es) X.env=(false,eval e X.env)::starEach es X.env:=by rfl) (hpl:(backTo pos (starEach es X.env)).any (·.1)=false:=by rfl) :
  PE X (.Call (.Name x p) (e::es) [] pos) (zio sp [] E0 t):=by
 obtain⟨f,fd,F,B,kp,m⟩:=h;exact yhx F (hr.mono hle) hg m kp B .nil ziB ha hdb he hpl
theorem yaD(Pv:St->Hp->Prop)(μ:St->Hp->Nat)(h0:Pv σ H)
  (hs:∀σ H,Pv σ H->c σ H λb H1=>if b=true then ∃N:St->Hp->Prop,(∀σ' H',N σ' H'->∃m',m' < μ σ H/\m'=μ σ' H'/\Pv σ' H')/\tb { D with nx:=N,ct:=N,bk:=D.nx } σ H1 else D.nx σ H1):zg4 c tb D σ H:=by
 refine⟨λm σ H=>m=μ σ H/\Pv σ H,⟨_,rfl,h0⟩,?_⟩;rintro m σ H ⟨rfl,p⟩;exact hs σ H p
end
end L2
end
section
namespace L2
open PySem PySem.Spec PyProof.Rows
section
variable {X:Cx}
theorem za7:bootBuiltins "list"=some (.type "list"):=by decide +kernel
theorem yai:bootBuiltins "tuple"=some (.type "tuple"):=by decide +kernel
theorem zcJ:bootBuiltins "int"=some (.type "int"):=by decide +kernel
theorem yd7:bootBuiltins "bool"=some (.type "bool"):=by decide +kernel
theorem zc3:bootBuiltins "abs"=some (.builtin "abs"):=by decide +kernel
theorem yel:bootBuiltins "min"=some (.builtin "min"):=by decide +kernel
theorem ycN:bootBuiltins "max"=some (.builtin "max"):=by decide +kernel
theorem zen:bootBuiltins "any"=some (.builtin "any"):=by decide +kernel
theorem zgZ(i:Int)(t:Tok):RelV (.int i) (.int i t):=⟨t,rfl⟩
theorem ydk{es:List Expr}{k:Nat}{t:TGs}{n:Nat}{pos:Pos}{K:PySem.W.Frag}(hK:X.K=K)(hc:X.calm=true)(h:PGs X es t)
  (hn:(assignEach es X.env).length=n:=by rfl) (hst:(assignEach es X.env).findIdx? (·.1)=none:=by rfl):PG X (.Tuple es k pos) (gTup K n t):=hK ▸ ycb hc h hn hst
end
end L2
end
section
namespace L2
open PySem PySem.Spec PyProof.Rows
theorem yf4{k:Nat}{sl:Array (Option Value)}
  (hx:s.heap.get? a=some { cls:=.type "list",dict:=none,data:=.seq xs k,slots:=sl }) (hA:A.handled=none)
  (h:∀h' tk e,Heap.NewExcOf s.heap h' e "AttributeError"->E (.ref e) { s with heap:=h',toks:=tk }) :
  wpAny (model prog w) A (getAttrBy (.ref a) (.str "keys" u) false) Q E s:=by
 have hmiss:typeLookup (.type "list") "keys"=pure none:=by rw[typeLookup_type,builtinLookup_eq_fast];kernel_rfl
 obtain⟨hp,g,d,tk,os⟩:=s;have hT:∀tk',(⟨hp,g,d,tk',os⟩:Shared).TypeIs (.ref a) "list":=λ_=>⟨_,hx,rfl⟩
 have f1:=sub_AttributeError;have f3:=F.slot_list_getattribute.lookup;have f4:=F.slot_list_getattribute.bind (.ref a);have f5:=am_list_getattr_none;unfold getAttrBy
 repeat (any_goals (first|assumption|exact hT _|((with_reducible show wpAny _ _ (call (Value.builtin "list.__getattribute__") _ _) _ _ _);refine call_meets F.slot_list_getattribute (hT _) am_entry_list_getattribute (F.args_list_getattribute_2 _ _) (meets_getattribute_miss_list a xs k sl "keys" _ hmiss (by decide +kernel)) ⟨hx,hA,λh' tk' e hx'=>?_⟩)|wp_step))
 obtain⟨t',u',he⟩:=hx'.there;show wpAny _ _ (getattributeRaised _ _ _ _ _ _ _) _ _ _;unfold getattributeRaised
 repeat (any_goals (first|assumption|wp_step))
 exact h _ _ _ hx'.of
theorem ygp{k:Nat}{sl:Array (Option Value)}
  (hx:s.heap.get? a=some { cls:=.type "list",dict:=none,data:=.seq xs k,slots:=sl }) (hA:A.handled=none)
  (h:∀h' tk,(∀b o,s.heap.get? b=some o->h'.get? b=some o)->Q none { s with heap:=h',toks:=tk }) :
  wpAny (model prog w) A (getAttr? (.ref a) "keys") Q E s:=by
 have f1:=sub_AttributeError;unfold getAttr? getAttrBy?;refine wpAny_bind (wpAny_mkText ?_);refine wpAny_bind ?_;refine wpAny_attempt ?_;refine yf4 (by exact hx) hA λh' tk e ne=>?_
 obtain⟨oe,_,he,hc,_⟩:=ne.there;show wpAny _ _ (isInstance (.ref e) (.type "AttributeError") >>= _) _ _ _;refine wpAny_bind (wpAny_isInstance ⟨_,he,hc⟩ f1 ?_);exact wpAny_pure (h _ _ ne.keeps)
theorem zbA:entryFor table "dict.update.loop"=some Builtin.«dict.update.loop»:=entryFor_of_fast (by kernel_rfl)
theorem yaK:plainId "dict.update.loop"=true:=by decide +kernel
section
variable {prog:Program} {w:World} {K:Type} [DecidableEq K] {knd:KeyKind prog w K} {A:Around} {R:Result->Shared->Prop} {I ax d:Addr}
theorem yf7(hh:A.in1.handled=none)(items:Array Value)(more:List (K×Value))(hne:ax≠I)(hdI:d≠I)(hda:d≠ax)(hsz:items.size<=sizeLine)(hml:more.length=items.size)
  (tp:Nat->Addr) (hit:∀j,j<items.size->items[j]?=some (.ref (tp j))) (htd:∀j,j<items.size->tp j≠d/\tp j≠I) :
  ∀(k i:Nat) (s:Shared) (t:Tok) (kvs:List (K×Value)),items.size-i=k->i<=items.size->s.heap.IsListIter I ax i/\s.heap.IsList ax items->s.heap.DictOf knd d kvs->kvs.length<=i->
  (∀j kv,more[j]?=some kv->∃key,knd.is kv.1 key=true/\s.heap.IsTuple (tp j) #[key,kv.2])->
  (∀s',s'.heap.DictOf knd d (merged kvs (more.drop i))->(∀b o,b≠I->b≠d->s.heap.get? b=some o->s'.heap.get? b=some o)->(Ex2 λh' tk=>s'={ s with heap:=h',toks:=tk })->R (.ok (.ret .none)) s')->
  codeAny (model prog w) A (.builtin "dict.update.loop" ⟨[.ref d,.ref I,.int (i:Int) t,.none],[]⟩) R s:=by
 have W:=Walks.list (prog:=prog) (w:=w) hh I ax hne items;intro k
 induction k with
 |zero=>
  intro i s t kvs hk hi hst hd hkl hpairs hR;have hin:i=items.size:=by lia
  subst hin;refine codeAny_builtin zbA ?_;rw[Around.under_plainId yaK _];show wpAny _ A.in1 (pyNext (.ref I) >>= _) _ _ s;refine wpAny_bind (W.done s _ _ hst λh' tk hk'=>?_);have hm:more.drop items.size=[]:=List.drop_of_length_le (by lia);rw[hm]at hR;have hd':h'.DictOf knd d kvs:=hd.at λo e=>hk' d o (by simp[hdI]) e
  refine wpAny_pure (hR { s with heap:=h',toks:=tk } hd' (λb o h1 h2 e=>hk' b o (by simp[h1]) e) ⟨_,_,rfl⟩)
 |succ k ih=>
  intro i s t kvs hk hi hst hd hkl hpairs hR;have hlt:i<items.size:=by lia
  refine codeAny_builtin zbA ?_;rw[Around.under_plainId yaK _];show wpAny _ A.in1 (pyNext (.ref I) >>= _) _ _ s;refine wpAny_bind (W.item i s _ _ hlt hst λv h' tk hP hst' hk'=>?_);rw[hit i hlt]at hP;cases hP;obtain⟨kv,hkv⟩:∃kv,more[i]?=some kv:=⟨more[i]'(by lia),List.getElem?_eq_getElem (by lia)⟩
  obtain⟨key,hkey,htup⟩:=hpairs i kv hkv;have htup':h'.IsTuple (tp i) #[key,kv.2]:=htup.at λo e=>hk' _ o (by simp[(htd i hlt).2]) e
  obtain⟨ot,hot,hoc,nn,hod⟩:=id htup';have hd':h'.DictOf knd d kvs:=hd.at λo e=>hk' d o (by simp[hdI]) e
  refine wpAny_bind (wpAny_holding ?_);refine wpAny_bind (wpAny_tryCatch ?_);unfold Builtin.Dict.pairItems;refine wpAny_bind (wpAny_typeOf ⟨_,hot,hoc⟩ ?_);rw[if_pos (by decide)];refine wpAny_bind (wpAny_seqItems hot hod ?_);refine wpAny_pure ?_;show wpAny _ A.in1 (holding [key,kv.2] (dictSet d key kv.2)) _ _ _;refine wpAny_holding (wpAny_dictSet_pairs (hsz:=by lia) hkey hd' λh2 hd2 hs2=>?_);have step:more.drop i=kv::more.drop (i+1):=by
   rw[List.drop_eq_getElem_cons (by lia)];congr 1;exact Option.some.inj ((List.getElem?_eq_getElem (by lia)).symm.trans hkv)
  refine wpAny_pure ⟨plainId_quiet yaK _,ih (i+1) _ _ (stored kvs kv.1 kv.2) (by lia) hlt ?_ hd2 ?_ (λj kv' hj=>?_) λs' h1 h2' h3=>hR s' ?_ (λb o n1 n2 e=>h2' b o n1 n2 (hs2.extBut b o n2 (hk' b o (by simp[n1]) e))) ?_⟩
  ·exact W.frame _ _ _ hst' λb hb o e=>hs2.extBut b o (by simp only[List.mem_cons,List.not_mem_nil,or_false]at hb;rcases hb with rfl|rfl;exact Ne.symm hdI;exact Ne.symm hda) e
  ·have:=stored_length_le kvs kv.1 kv.2;lia
  ·obtain⟨key',a1,a2⟩:=hpairs j kv' hj;have hj':j<items.size:=by rw[<-hml];exact(List.getElem?_eq_some_iff.mp hj).1
   exact⟨key',a1,(a2.at λo e=>hk' _ o (by simp[(htd j hj').2]) e).at λo e=>hs2.extBut _ o (htd j hj').1 e⟩
  ·rw[step];exact h1
  ·obtain⟨h4,tk4,rfl⟩:=h3;exact⟨_,_,rfl⟩
end
section
variable {X:Cx}
theorem Vals.getR:∀ {xs:List V} {us:List Value},Vals xs us->∀(j:Nat) x u,xs[j]?=some x->us[j]?=some u->RelV x u
 |_,_,.nil,j,x,u,e,_=>by simp at e
 |_::_,_::_,.cons r t,0,x,u,e1,e2=>by simp at e1 e2;subst e1 e2;exact r
 |_::_,_::_,.cons r t,j+1,x,u,e1,e2=>Vals.getR t j x u (by simpa using e1) (by simpa using e2)
noncomputable def yhC:List V->Hp->VK->Prop:=λxs H Q=>Ex3 λ(a:Addr) (ts:List Addr) (kvs:List (Key×V))=>xs=[.ref a]/\H a=some (.lst (ts.map V.ref))/\ts.length=kvs.length/\kvs.length<=sizeLine/\
 (∀(j:Nat) t kv,ts[j]?=some t->kvs[j]?=some kv->H t=some (.tup [kV kv.1,kv.2]))/\(kvs.map (·.1)).Nodup/\∀D,H D=none->Q (.ref D) (upd H D (.dK kvs))
theorem ydg{P:Program}{w:World}(I:Inv X pins σ H s):∀(ts:List Addr) (kvs:List (Key×V)),ts.length=kvs.length->(∀(j:Nat) t kv,ts[j]?=some t->kvs[j]?=some kv->H t=some (.tup [kV kv.1,kv.2]))->
  ∃vs:List (Key×Value),KV kvs vs/\vs.length=ts.length/\∀(j:Nat) kv t,vs[j]?=some kv->ts[j]?=some t->∃key,(zaA P w).is kv.1 key=true/\s.heap.IsTuple t #[key,kv.2]
 | [],[],_,_=>⟨[],.nil,rfl,λj kv t e=>by simp at e⟩
 | [],_::_,h,_=>by simp at h
 |_::_,[],h,_=>by simp at h
 |t::ts,kv::kvs,h,hp=>by
  obtain⟨vs,h1,h2,h3⟩:=ydg I ts kvs (by simpa using h) λj t' kv' e1 e2=>hp (j+1) t' kv' (by simpa using e1) (by simpa using e2)
  obtain⟨its,r,p,_⟩:=I.tuple (SqT.of (hp 0 t kv rfl rfl));cases r with
  |cons ra rr=>
   cases rr with
   |cons rb rz=>
    cases rz;rename_i ka va;refine⟨(kv.1,va)::vs,.cons ⟨rfl,rb⟩ h1,by simp[h2],λj kv' t' e1 e2=>?_⟩;cases j with
    |zero=>
     simp at e1 e2;subst e1 e2;exact⟨ka,ygW ra,p⟩
    |succ j=>exact h3 j kv' t' (by simpa using e1) (by simpa using e2)
theorem zc6(hc:X.calm=true):ya4 X (.type "dict") yhC:=by
 intro pins s σ H xs us Q I r h;obtain⟨a,ts,kvs,rfl,ha,hl,hsz,hp,hn,q⟩:=h;obtain⟨u,rfl,rx⟩:=zcg r;cases rx;obtain⟨its,r1,p1,z1⟩:=I.list (SqL.of ha);refine callType_codes (Q₁:=λobj s₁=>obj = .ref s.heap.objs.size/\s₁={ s with heap:=s.heap.push { cls:=.type "dict",data:=.dict #[] } }) F.kt_called_dict (F.kt_typeCall_dict_1 _) F.entry_dict_init (kt_code_dict_new _ ⟨rfl,rfl⟩) ?_;rintro obj s₁ ⟨rfl,rfl⟩;have hnew:(s.heap.push { cls:=.type "dict",data:=.dict #[] }).DictOf (zaA X.prog X.w) s.heap.objs.size []:=Heap.DictOf.new s.heap;refine⟨hnew.typeIs,F.args_dict_init_2 _ _,?_⟩;unfold Builtin.«dict.__init__»;refine wpAny_bind ?_;unfold Builtin.Dict.selfAndRest;refine wpAny_bind (wpAny_notOrdered_dict hnew.typeIs ?_);show wpAny _ _ (pure (s.heap.objs.size,[Value.ref a])) _ _ _;refine wpAny_pure ?_;show wpAny _ _ (Builtin.Dict.updateFrom "dict.__init__" s.heap.objs.size (.ref a) [] .none) _ _ _;unfold Builtin.Dict.updateFrom;have hne:∀b o,s.heap.get? b=some o->b≠s.heap.objs.size:=λb o e z=>by have l:s.heap.objs.size>=Nat.succ b:=Heap.lt_size e;have z':@Eq Nat b s.heap.objs.size:=z;lia
 obtain⟨vs,hKV,hvl,hvs⟩:=ydg (P:=X.prog) (w:=X.w) I ts kvs hl hp;have hA:X.A.in1.in1.handled=none:=I.ok.hd hc;obtain⟨⟨ca,da,dta,sla⟩,na,hoa,hca,hda,hdt⟩:=id p1;dsimp only at hca hda hdt;subst hca hda hdt;have e1:(s.heap.push { cls:=.type "dict",data:=.dict #[] }).get? a=some { cls:=.type "list",dict:=none,data:=.seq its.toArray na,slots:=sla }:=Heap.get?_push_of_some _ hoa;refine wpAny_bind (wpAny_typeOf ⟨_,e1,rfl⟩ ?_);dsimp only;rw[if_pos (by decide)];refine wpAny_bind (ygp e1 hA λh1 tk1 hk1=>?_);rw[if_pos (show(none:Option Value).isNone=true from rfl)];refine wpAny_bind (wpAny_rule ?_);have e2:h1.IsList a its.toArray:=⟨_,hk1 _ _ e1,rfl,na,rfl⟩
 refine wpAny_bind (wpAny_pyIter_list e2 ?_);have hN:s.heap.objs.size<h1.objs.size:=Heap.lt_size (hk1 _ _ (Heap.get?_push_size _ rfl));have hI:∀b o,h1.get? b=some o->b≠h1.objs.size:=λb o e z=>by have l:h1.objs.size>=Nat.succ b:=Heap.lt_size e;have z':@Eq Nat b h1.objs.size:=z;lia
 have kp:∀b o,s.heap.get? b=some o->(h1.push { cls:=.type "list_iterator",data:=.fields #[.ref a,.int 0 0] }).get? b=some o:=λb o e=>Heap.get?_push_of_some _ (hk1 _ _ (Heap.get?_push_of_some _ e))
 have hr1:=r1.length;have hlen:its.toArray.size=ts.length:=by rw[List.size_toArray,<-hr1,List.length_map]
 have hti:∀j,j<its.toArray.size->its.toArray[j]?=some (.ref (ts.getD j 0)):=by
  intro j hj;rw[hlen]at hj;have hj2:j<its.length:=by rw[<-hr1,List.length_map];exact hj
  rw[List.getElem?_toArray,List.getElem?_eq_getElem hj2];have g:=Vals.getR r1 j (.ref (ts.getD j 0)) its[j] (by rw[List.getElem?_map,List.getElem?_eq_getElem hj];simp[List.getD,hj]) (List.getElem?_eq_getElem hj2);exact congrArg some g
 have htu:∀j,j<its.toArray.size->∃o,s.heap.get? (ts.getD j 0)=some o:=by
  intro j hj;rw[hlen]at hj;have hj2:j<vs.length:=by rw[hvl];exact hj
  obtain⟨key,_,o,ho,_⟩:=hvs j vs[j] (ts.getD j 0) (List.getElem?_eq_getElem hj2) (by simp[List.getD,hj]);exact⟨o,ho⟩
 refine wpAny_pure ⟨plainId_quiet yaK _,?_⟩;refine yf7 (knd:=zaA X.prog X.w) (A:=X.A.in1) (I:=h1.objs.size) (ax:=a) (d:=s.heap.objs.size) hA its.toArray vs (hI _ _ (hk1 _ _ e1)) (Nat.ne_of_lt hN) (Ne.symm (hne _ _ hoa)) (by rw[hlen,hl];exact hsz) (by rw[hvl,hlen]) (λj=>ts.getD j 0) hti
  (λj hj=>by obtain⟨o,ho⟩:=htu j hj;exact⟨hne _ _ ho,hI _ _ (hk1 _ _ (Heap.get?_push_of_some _ ho))⟩) _ 0 _ _ [] rfl (Nat.zero_le _) ⟨⟨_,Heap.get?_push_size _ rfl,rfl,rfl⟩,e2.push _⟩ ?_ (Nat.le_refl _) ?_ ?_
 ·exact(hnew.at λo e=>hk1 _ _ e).push _
 ·intro j kv hj;have hj2:j<ts.length:=by rw[<-hvl];exact(List.getElem?_eq_some_iff.mp hj).1
  obtain⟨key,k1,k2⟩:=hvs j kv (ts.getD j 0) hj (by simp[List.getD,hj2]);exact⟨key,k1,k2.at λo e=>kp _ _ e⟩
 ·rintro s' hd hk ⟨h',tk,rfl⟩;have hkeys:vs.map (·.1)=kvs.map (·.1):=(KV.keys hKV).symm;rw[List.drop_zero,merged_nil_of_nodup vs (by rw[hkeys];exact hn)]at hd;refine⟨rfl,.ref s.heap.objs.size,_,I.laid (a:=s.heap.objs.size) (o:=.dK kvs) (t':=tk) (h':=h') (λb o e=>hk b o (hI _ _ (hk1 _ _ (Heap.get?_push_of_some _ e))) (hne _ _ e) (kp _ _ e)) (Nat.le_refl _) ⟨hsz,beq_eq_false_iff_ne.mpr (Ne.symm (Nat.ne_of_lt I.big)),vs,hKV,hd⟩,rfl,q _ (I.hok.fresh (Nat.le_refl _))⟩
end
end L2
end
section
namespace L2
open PySem PySem.Spec PyProof.Rows
section
variable {X:Cx}
theorem zfr:∀ {xs:List Int} {us:List Value},Vals (xs.map V.int) us->∀ {ys:List Int} {vs:List Value},Vals (ys.map V.int) vs->∀j (h1:j<us.toArray.size) (h2:j<vs.toArray.size),SeqAt.EqAt A s us.toArray[j] vs.toArray[j] (xs.getD j 0==ys.getD j 0):=by
 intro xs us r1 ys vs r2 j h1 h2;have l1:=r1.length;have l2:=r2.length;rw[List.length_map]at l1 l2;rw[List.size_toArray]at h1 h2;have g1:=Vals.getR r1 j (.int (xs.getD j 0)) us[j] (by rw[List.getElem?_map,List.getElem?_eq_getElem (by lia)];simp[List.getD,show j<xs.length by lia]) (List.getElem?_eq_getElem h1);have g2:=Vals.getR r2 j (.int (ys.getD j 0)) vs[j] (by rw[List.getElem?_map,List.getElem?_eq_getElem (by lia)];simp[List.getD,show j<ys.length by lia]) (List.getElem?_eq_getElem h2);obtain⟨t1,e1⟩:=g1;obtain⟨t2,e2⟩:=g2;rw[List.getElem_toArray,List.getElem_toArray,e1,e2];exact SeqAt.EqAt.int_int _ t1 _ t2
theorem zfE{xs ys:List Int}:((List.range (min xs.length ys.length)).all (λj=>xs.getD j 0==ys.getD j 0)&&xs.length==ys.length)=decide (xs=ys):=by
 rw[Bool.eq_iff_iff,Bool.and_eq_true,List.all_eq_true,decide_eq_true_iff,beq_iff_eq];constructor
 ·rintro⟨h1,h2⟩;refine List.ext_getElem h2 λj a b=>?_
  have:=h1 j (List.mem_range.mpr (by lia))
  simpa[List.getD,a,b]using this
 ·rintro rfl;exact⟨λj _=>by simp,rfl⟩
noncomputable def rEqT(K:PySem.W.Frag)(neg:Bool):R2:=λx y H Q=>Ex4 λ(a b:Addr) (xs ys:List Int)=>x = .ref a/\y = .ref b/\SqT K H a (xs.map V.int)/\SqT K H b (ys.map V.int)/\Q (.bl (if neg then !decide (xs=ys) else decide (xs=ys))) H
theorem ze1(hu:X.A.units<cLine):OpR X (compareOp .Eq) (rEqT X.K false):=by
 intro pins s σ H x y v u Q I rx ry h;obtain⟨a,b,xs,ys,rfl,rfl,ha,hb,q⟩:=h;cases rx;cases ry;obtain⟨us,r1,p1,z1⟩:=I.tuple ha;obtain⟨vs,r2,p2,z2⟩:=I.tuple hb;refine SeqAt.eq_tupleAt p1 p2 hu (zfr r1 r2) ?_;have l1:=r1.length;have l2:=r2.length;rw[List.length_map]at l1 l2;rw[List.size_toArray,List.size_toArray,<-l1,<-l2,zfE];exact⟨.bl _,H,I,rfl,q⟩
end
end L2
end
section
namespace L2
open PySem PySem.Spec PyProof.Rows
section
variable {X:Cx} {pos:Pos}
noncomputable def ziP(i j k:Nat)(ta:TA):TS:=λD σ H=>ta σ H λvs H1=>Ex3 λu v w=>vs=[u,v,w]/\D.nx (((σ.set i (some u)).set j (some v)).set k (some w)) H1
theorem yen{i j k:Nat}{x y z:Str}{a b c:Expr}{ta:TA}{px py pz pt:Pos}{kt k2 pt2}(hc:X.calm=true)(hN:X.N.Nodup)(hi:X.N[i]?=some x)(hj:X.N[j]?=some y)(hk:X.N[k]?=some z)(hij:i≠j/\i≠k/\j≠k)
  (hx:X.env.scope.names.lookup x=some .local) (hy:X.env.scope.names.lookup y=some .local) (hz:X.env.scope.names.lookup z=some .local) (ha:PA X [a,b,c] ta)
  (hw:swappedStores [.Tuple [.Name x px,.Name y py,.Name z pz] kt pt] (.Tuple [a,b,c] k2 pt2) X.env=pure (some [x,y,z]))
  (hs:swapsWithSole [.Tuple [.Name x px,.Name y py,.Name z pz] kt pt] (.Tuple [a,b,c] k2 pt2) pos.line X.env=pure false:=by rfl) :
  PS X (.Assign [.Tuple [.Name x px,.Name y py,.Name z pz] kt pt] (.Tuple [a,b,c] k2 pt2) pos) (ziP i j k ta):=by
 intro pins s σ H D I h;rw[exec_Assign_arm];refine wpAny_bind (wpAny_standAt ?_);rw[hs];refine wpAny_bind (wpAny_pure ?_);rw[if_neg (by decide)];refine wpAny_bind (Tuple_ (thn (ha _ pins s σ H _ I h) λus s1 hq=>?_));obtain⟨vs,H1,I1,r1,q1⟩:=hq;obtain⟨v1,v2,v3,e1,q1⟩:=q1;subst e1;obtain⟨u1,u2,u3,rfl,r1',r2',r3'⟩:Ex3 λu1 u2 u3=>us=[u1,u2,u3]/\RelV v1 u1/\RelV v2 u2/\RelV v3 u3:=by
  cases r1 with
  |cons p q=>
   cases q with
   |cons p' q'=>
    cases q' with
    |cons p'' q''=>
     cases q'';exact⟨_,_,_,rfl,p,p',p''⟩
 refine wpAny_newObj_type ?_ (by show 3<=sizeLine;decide);have I2:Inv X pins σ H1 { s1 with heap:=s1.heap.push { cls:=.type "tuple",data:=.seq [u1,u2,u3].toArray } }:=I1.kept (t':=s1.toks) λb o e=>Heap.get?_push_of_some _ e
 rw[hw];refine wpAny_bind (wpAny_pure ?_);show wpAny (model X.prog X.w) X.A (do rule "assign.swapped-stores";let items <-unpackItems (.ref s1.heap.objs.size) 3 none;assignInOrder [λv=>bindName X.env z v,λv=>bindName X.env y v,λv=>bindName X.env x v] items.reverse;pure Flow.next) _ _ _;refine wpAny_bind (wpAny_rule (wpAny_bind (unpackItems_tuple (items:=#[u1,u2,u3]) (I.ok.hd hc) (IsTup.new s1.heap _) λh' hx'=>?_)));have I3:=I2.kept (h':=h') (t':=s1.toks) λb o e=>hx' b o (Nat.ne_of_lt (Heap.lt_size e)) e
 show wpAny _ _ (assignInOrder [λv=>bindName X.env z v,λv=>bindName X.env y v,λv=>bindName X.env x v] [u3,u2,u1] >>= λ_=>pure Flow.next) _ _ _;refine wpAny_bind (assignInOrder_cons (wpAny_bindName (yaQ I3 hN hk (.inl hz) r3' (λs2 I4=>?_) (.inr hz))));refine assignInOrder_cons (wpAny_bindName (yaQ I4 hN hj (.inl hy) r2' (λs2 I5=>?_) (.inr hy)));refine assignInOrder_cons (wpAny_bindName (yaQ I5 hN hi (.inl hx) r1' (λs3 I6=>assignInOrder_nil (wpAny_pure ?_)) (.inr hx)));have e:((σ.set k (some v3)).set j (some v2)).set i (some v1)=((σ.set i (some v1)).set j (some v2)).set k (some v3):=by
  rw[List.set_comm (some v3) (some v2) (Ne.symm hij.2.2),List.set_comm (some v3) (some v1) (Ne.symm hij.2.1),List.set_comm (some v2) (some v1) (Ne.symm hij.1)]
 rw[e]at I6;exact⟨_,H1,I6,q1⟩
section
variable {K:PySem.W.Frag}
theorem yhr(h:X.K=K):IxR X (rIxT K):=h ▸ zam
theorem ze5(h:X.K=K):IxR X (rIxL K):=h ▸ yah
end
end
end L2
end
section
namespace L2
open PySem PySem.Spec PyProof.Rows
open MeetsSeq MeetsSeq2 MeetsSeq3
theorem zco:fillsNumberSlot (.type "tuple") "mul"=pure false :=
 PySem.fillsNumberSlot_seq (id:="tuple.__mul__") (r:=some (.builtin "tuple.__rmul__")) PySem.F.slot_tuple_mul.lookup (by decide +kernel) PySem.F.slot_tuple_rmul.lookup (by decide +kernel)
theorem ydW:seqRepeat? (.type "tuple")=pure (some (.builtin "tuple.__mul__")):=by
 unfold seqRepeat?;rw[PySem.seqSlot_of (T:="tuple") (name:="__mul__") (id:="tuple.__mul__") PySem.F.slot_tuple_mul.lookup (by decide +kernel),PySem.seqSlot_of (T:="tuple") (name:="__rmul__") (id:="tuple.__rmul__") PySem.F.slot_tuple_rmul.lookup (by decide +kernel)];rfl
theorem zc7(a:Int)(t:Tok)(l:Addr)(items:Array Value)(n:Nat)(dd:Option Addr)(sl:Array (Option Value)) :
  Meets (Builtin.«int.__rmul__» ⟨[.int a t,.ref l],[]⟩) (λ_ R s=>s.heap.get? l=some { cls:=.type "tuple",dict:=dd,data:=.seq items n,slots:=sl }/\R (.ok (.ret Value.notImplemented)) s) :=
 .of_wp λprog w A R s h=>by obtain⟨hp,g,d,tk,os⟩:=s;obtain⟨hl,h⟩:=h;wp_walk;exact⟨_,rfl,h⟩
theorem yeg(l:Addr)(items:Array Value)(n:Nat)(dd:Option Addr)(sl:Array (Option Value))(u:Tok) :
  Meets (Builtin.«tuple.__mul__» ⟨[.ref l,.int 1 u],[]⟩) (λ_ R s=>s.heap.get? l=some { cls:=.type "tuple",dict:=dd,data:=.seq items n,slots:=sl }/\R (.ok (.ret (.ref l))) s) :=
 .of_wp λprog w A R s h=>by
  obtain⟨hp,g,d,tk,os⟩:=s;obtain⟨hl,h⟩:=h
  wp_walk
  exact⟨_,rfl,h⟩
theorem yeo(l:Addr)(items:Array Value)(n:Nat)(dd:Option Addr)(sl:Array (Option Value))(u:Tok)(hne:items.isEmpty=false) :
  Meets (Builtin.«tuple.__mul__» ⟨[.ref l,.int 0 u],[]⟩) (λ_ R s=>s.heap.get? l=some { cls:=.type "tuple",dict:=dd,data:=.seq items n,slots:=sl }/\R (.ok (.ret (.ref s.heap.objs.size))) { s with heap:=s.heap.push { cls:=.type "tuple",data:=.seq #[] } }) :=
 .of_wp λprog w A R s h=>by
  obtain⟨hp,g,d,tk,os⟩:=s;obtain⟨hl,h⟩:=h;have h0:(items.isEmpty||((0:Int)==1))=false:=by rw[hne];rfl
  have h1:(decide ((0:Int)<=0)||items.isEmpty)=true:=rfl
  wp_walk
  exact⟨_,rfl,h⟩
theorem yeE(l:Addr)(items:Array Value)(n:Nat)(dd:Option Addr)(sl:Array (Option Value))(x:Int)(u:Tok)(hne:items.isEmpty=false)(h2:2<=x)(h3:x<2^63)(hz:items.size*x<=(sizeLine:Int)) :
  Meets (Builtin.«tuple.__mul__» ⟨[.ref l,.int x u],[]⟩) (λ_ R s=>s.heap.get? l=some { cls:=.type "tuple",dict:=dd,data:=.seq items n,slots:=sl }/\R (.ok (.ret (.ref s.heap.objs.size))) { s with heap:=s.heap.push { cls:=.type "tuple",data:=.seq ((List.replicate x.toNat items).foldl (·++·) #[]) } }) :=
 .of_wp λprog w A R s h=>by
  obtain⟨hp,g,d,tk,os⟩:=s;obtain⟨hl,h⟩:=h;have g0:(decide (x < -(2^63))||decide (x>=2^63))=false:=by simp;lia
  have g1:(items.isEmpty||(x==1))=false:=by rw[hne];simp;lia
  have g2:(decide (x<=0)||items.isEmpty)=false:=by rw[hne];simp;lia
  have hcap:¬ items.size*x>(2^63-1)/8:=by
   have:((sizeLine:Nat):Int)<=(2^63-1)/8:=by decide
   lia
  have hl2:Builtin.Tuple.tupleTooMany (items.size*x)=false:=by unfold Builtin.Tuple.tupleTooMany;simp;lia
  wp_walk
  rw[if_neg (by rw[g0];exact Bool.false_ne_true)]
  wp_walk
  rw[if_neg (by rw[g1];exact Bool.false_ne_true)]
  wp_walk
  rw[if_neg (by rw[g2];exact Bool.false_ne_true)];dsimp only;rw[if_neg hcap,if_neg (by rw[hl2];exact Bool.false_ne_true)];have hs:((List.replicate x.toNat items).foldl (·++·) #[]).size<=sizeLine:=by
   have e:∀(k:Nat) (acc:Array Value),((List.replicate k items).foldl (·++·) acc).size=acc.size+k*items.size:=by
    intro k
    induction k with
    |zero=>intro acc;simp
    |succ k ih=>intro acc;rw[List.replicate_succ,List.foldl_cons,ih,Array.size_append,Nat.succ_mul];lia
   rw[e];have h4:(items.size:Int)*x=((x.toNat*items.size:Nat):Int):=by rw[Int.natCast_mul,Int.toNat_of_nonneg (by lia),Int.mul_comm]
   rw[h4]at hz;simp
   lia
  unfold Builtin.Tuple.tupleExact;refine wpAny_bind (wpAny_newObj_type ?_ hs);exact wpAny_pure ⟨_,rfl,h⟩
section
variable {X:Cx}
noncomputable def zhD(K:PySem.W.Frag):R2:=λx y H Q=>Ex3 λ(a:Addr) (k:Int) (xs:List V)=>x = .ref a/\y = .int k/\SqT K H a xs/\xs≠[]/\0<=k/\k<2^63/\xs.length*k.toNat<=sizeLine/\
 (k=1->Q (.ref a) H)/\(k≠1->∀p,H p=none->Q (.ref p) (upd H p (.tup (List.replicate k.toNat xs).flatten)))
theorem ycT:OpR X (binaryOp .Mult) (zhD X.K):=by
 intro pins s σ H x y v u Q I rx ry h;obtain⟨a,k,xs,rfl,rfl,ha,hne,h0,h1,hz,q1,q2⟩:=h;cases rx;obtain⟨t,rfl⟩:=ry;obtain⟨its,r,⟨⟨cls,dd,data,sl⟩,ho,hc,n,hd⟩,z⟩:=I.tuple ha;simp only at hc hd;subst hc hd;have hl:=r.length;have hine:its.toArray.isEmpty=false:=by
  cases its with
  |nil=>cases r;exact absurd rfl hne
  |cons _ _=>rfl
 refine wpAny_binaryOp_repeat_ref (T:="tuple") (U:="int") (by decide) ⟨_,ho,rfl⟩ (λs'=>typeIs_int s' k t) zco F.fills_int_mul F.slot_int_rmul ydW F.slot_int_index.lookup
  (call_meets F.slot_int_rmul (typeIs_int s k t) F.entry_int_rmul (F.args_int_rmul_2 _ _) (zc7 k t a its.toArray n dd sl) ⟨ho,rfl,⟨_,ho,rfl⟩,?_⟩)
 by_cases e1:k=1
 ·subst e1;exact call_meets PySem.F.slot_tuple_mul ⟨_,ho,rfl⟩ PySem.F.entry_tuple_mul (PySem.F.args_tuple_mul_2 _ _) (yeg a its.toArray n dd sl t) ⟨ho,⟨.ref a,H,I,rfl,q1 rfl⟩⟩
 ·by_cases e0:k=0
  ·subst e0;refine call_meets PySem.F.slot_tuple_mul ⟨_,ho,rfl⟩ PySem.F.entry_tuple_mul (PySem.F.args_tuple_mul_2 _ _) (yeo a its.toArray n dd sl t hine) ⟨ho,?_⟩;exact⟨.ref s.heap.objs.size,_,I.laid (t':=s.toks) (o:=.tup []) (λb ob q=>Heap.get?_push_of_some _ q) (Nat.le_refl _) ⟨Nat.zero_le _,[],.nil,IsTup.new _ _⟩,rfl,q2 e1 _ (I.hok.fresh (Nat.le_refl _))⟩
  ·have hz2:(its.toArray.size:Int)*k<=(sizeLine:Int):=by
    rw[List.size_toArray,<-hl];have h4:(xs.length:Int)*k=((xs.length*k.toNat:Nat):Int):=by rw[Int.natCast_mul,Int.toNat_of_nonneg h0]
    rw[h4];lia
   refine call_meets PySem.F.slot_tuple_mul ⟨_,ho,rfl⟩ PySem.F.entry_tuple_mul (PySem.F.args_tuple_mul_2 _ _) (yeE a its.toArray n dd sl k t hine (by lia) h1 hz2) ⟨ho,?_⟩;have hnew:List.foldl (λx1 x2=>x1++x2) #[] (List.replicate k.toNat its.toArray)=(List.replicate k.toNat its).flatten.toArray:=by
    have:=zcY its k.toNat [];rw[List.nil_append]at this;exact this
   rw[hnew];refine⟨.ref s.heap.objs.size,_,I.laid (t':=s.toks) (o:=.tup (List.replicate k.toNat xs).flatten) (λb ob q=>Heap.get?_push_of_some _ q) (Nat.le_refl _) ⟨by rw[yf6,Nat.mul_comm];exact hz,_,r.rep k.toNat,IsTup.new _ _⟩,rfl,q2 e1 _ (I.hok.fresh (Nat.le_refl _))⟩
theorem yeu(l b:Addr)(items2:Array Value)(n n2:Nat)(dd dd2:Option Addr)(sl sl2:Array (Option Value)) :
  Meets (Builtin.«tuple.__add__» ⟨[.ref l,.ref b],[]⟩) (λ_ R s=>s.heap.get? l=some { cls:=.type "tuple",dict:=dd,data:=.seq #[] n,slots:=sl }/\s.heap.get? b=some { cls:=.type "tuple",dict:=dd2,data:=.seq items2 n2,slots:=sl2 }/\R (.ok (.ret (.ref b))) s) :=
 .of_wp λprog w A R s h=>by
  obtain⟨hp,g,d,tk,os⟩:=s;obtain⟨hl,hb,h⟩:=h;have hsub:isSubtype (.type "tuple") (.type "tuple")=pure true:=by rw[isSubtype_type];kernel_rfl
  wp_walk
  exact⟨_,rfl,h⟩
noncomputable def zh7(K:PySem.W.Frag):R2:=λx y H Q=>Ex4 λ(a b:Addr) (xs ys:List V)=>x = .ref a/\y = .ref b/\SqT K H a xs/\SqT K H b ys/\xs.length+ys.length<=sizeLine/\
 (xs=[]->Q (.ref b) H)/\(xs≠[]->ys=[]->Q (.ref a) H)/\(xs≠[]->ys≠[]->∀p,H p=none->Q (.ref p) (upd H p (.tup (xs++ys))))
theorem zdA:OpR X (binaryOp .Add) (zh7 X.K):=by
 intro pins s σ H x y v u Q I rx ry h;obtain⟨a,b,xs,ys,rfl,rfl,ha,hb,hz,q0,q1,q2⟩:=h;by_cases hx:xs=[]
 ·subst hx;cases rx;cases ry;obtain⟨its,r1,⟨⟨cls,dd,data,sl⟩,ho,hc,n,hd⟩,_⟩:=I.tuple ha;obtain⟨its2,r2,⟨⟨cls2,dd2,data2,sl2⟩,ho2,hc2,n2,hd2⟩,_⟩:=I.tuple hb;simp only at hc hd hc2 hd2;subst hc hd hc2 hd2;cases r1;exact concat_meets ⟨_,ho,rfl⟩ ⟨_,ho2,rfl⟩ noFill_tuple_add seq_tuple_add PySem.F.slot_tuple_add PySem.F.entry_tuple_add (PySem.F.args_tuple_add_2 _ _) (yeu a b its2.toArray n n2 dd dd2 sl sl2) ⟨ho,ho2,⟨.ref b,H,I,rfl,q0 rfl⟩⟩
 ·exact zhu pins s σ H _ _ v u Q I rx ry ⟨a,b,xs,ys,rfl,rfl,ha,hb,hx,hz,q1 hx,q2 hx⟩
end
end L2
end
section
namespace L2
open PySem PySem.Spec PyProof.Rows
theorem ydo:bootBuiltins "reversed"=some (.type "reversed"):=by decide +kernel
end L2
end
section
namespace L2
open PySem PySem.Spec PyProof.Rows
theorem zdl:∀ {ns:List Int} {us:List Value},Vals (ns.map V.int) us->IntsAre us ns
 | [],[],_=>.nil
 | [],_::_,r=>by cases r
 |_::_,[],r=>by cases r
 |n::ns,u::us,.cons r t=>by
  obtain⟨tk,rfl⟩:=r;exact .cons n tk (zdl t)
theorem ycm:∀ {us:List Value} {ns:List Int},IntsAre us ns->Vals (ns.map V.int) us
 |_,_,.nil=>.nil
 |_,_,.cons n t h=>.cons ⟨t,rfl⟩ (ycm h)
section
variable {X:Cx}
noncomputable def yhz(K:PySem.W.Frag):List V->Hp->VK->Prop:=λvs H Q=>Ex2 λ(a:Addr) (ns:List Int)=>vs=[.ref a]/\SqL K H a (ns.map V.int)/\ns.length<64/\
 ∀(l:Addr) (ns':List Int),H l=none->ns'.Perm ns->ns'.Pairwise (·<=·)->Q (.ref l) (upd H l (.lst (ns'.map V.int)))
theorem yey:ya4 X (.builtin "sorted") (yhz X.K):=by
 intro pins s σ H xs us Q I r h;obtain⟨a,ns,rfl,ha,hl,q⟩:=h;obtain⟨u,rfl,rx⟩:=zcg r;cases rx;obtain⟨its,r1,p1,z1⟩:=I.list ha;have hlen:=r1.length;rw[List.length_map]at hlen z1;refine sorted_ints p1.isList (zdl r1) (by lia) λout ns' a1 a2 a3=>?_
 obtain⟨e,he⟩:=sortedAll_at s.heap its out;have r2:Vals (ns'.map V.int) out.toList:=ycm a1;refine⟨.ref (s.heap.objs.size+1),_,I.laid (a:=s.heap.objs.size+1) (t':=s.toks) (o:=.lst (ns'.map V.int)) (λb ob e=>sortedAll_old e) (Nat.le_succ _) ⟨?_,out.toList,e,r2,?_⟩,rfl,q _ ns' (I.hok.fresh (Nat.le_succ _)) a2 a3⟩
 ·rw[List.length_map,a2.length_eq];exact z1
 ·rw[he]
end
end L2
end
section
namespace L2
open PySem PyProof.Rows
end L2
end
section
namespace L2
open PySem PyProof.Rows
def Rise(xs:Array Nat):Prop:=xs.toList.Pairwise (· < ·)
theorem zdF{xs:Array Nat}(h:Rise xs){i j:Nat}(hij:i<j)(hj:j<xs.size):xs[i]'(by lia)<xs[j]:=by
 have:=List.pairwise_iff_getElem.mp h i j (by simpa using (by lia:i<xs.size)) (by simpa using hj) hij
 simpa using this
theorem ydH{xs:Array Nat}(h:Rise xs)(j:Nat):∀(fuel lo hi:Nat),hi-lo<=fuel->lo<=hi->hi<=xs.size->
  (∀i (hi':i<xs.size),i<lo->xs[i]<j)->(∀i (hi':i<xs.size),hi<=i->j<=xs[i])->
  SetTable.below.go xs j fuel lo hi<=xs.size/\(∀i (hi':i<xs.size),i<SetTable.below.go xs j fuel lo hi->xs[i]<j)/\(∀i (hi':i<xs.size),SetTable.below.go xs j fuel lo hi<=i->j<=xs[i])
 |0,lo,hi,hf,hl,hs,h1,h2=>by
  have e:lo=hi:=by lia
  subst e;exact⟨hs,h1,h2⟩
 |fuel+1,lo,hi,hf,hl,hs,h1,h2=>by
  unfold SetTable.below.go;by_cases c:lo<hi
  ·rw[if_pos c];have hm:(lo+hi)/2<xs.size:=by lia
   have eg:xs.getD ((lo+hi)/2) j=xs[(lo+hi)/2]:=by simp[Array.getD,hm]
   dsimp only;rw[eg];by_cases d:xs[(lo+hi)/2]<j
   ·rw[if_pos d];refine ydH h j fuel _ _ (by lia) (by lia) hs (λi hi' hlt=>?_) h2;by_cases e:i=(lo+hi)/2
    ·subst e;exact d
    ·exact Nat.lt_trans (zdF h (by lia) hm) d
   ·rw[if_neg d];refine ydH h j fuel _ _ (by lia) (by lia) (by lia) h1 λi hi' hge=>?_
    by_cases e:i=(lo+hi)/2
    ·subst e;lia
    ·have:=zdF h (show(lo+hi)/2<i by lia) hi'
     lia
  ·rw[if_neg c];have e:lo=hi:=by lia
   subst e;exact⟨hs,h1,h2⟩
theorem yfa{xs:Array Nat}(h:Rise xs)(j:Nat):SetTable.below xs j<=xs.size/\(∀i (hi':i<xs.size),i<SetTable.below xs j->xs[i]<j)/\(∀i (hi':i<xs.size),SetTable.below xs j<=i->j<=xs[i]) :=
 ydH h j xs.size 0 xs.size (by lia) (by lia) (Nat.le_refl _) (λi _ hi=>absurd hi (Nat.not_lt_zero _)) (λi hi' hge=>absurd hi' (by lia))
theorem zes{xs:Array Nat}(h:Rise xs){j:Nat}(hn:xs[SetTable.below xs j]?≠some j):Rise (SetTable.insertAt xs (SetTable.below xs j) j):=by
 obtain⟨h1,h2,h3⟩:=yfa h j;generalize SetTable.below xs j=r at *;unfold Rise;rw[SetTable.toList_insertAt];have hd:∀y∈xs.toList.drop r,j<y:=by
  intro y hy;obtain⟨i,hi,e⟩:=List.getElem_of_mem hy;rw[List.getElem_drop]at e;have hi2:r+i<xs.size:=by simp at hi;lia
  have e2:y=xs[r+i]:=by rw[<-e];simp
  have h4:=h3 (r+i) hi2 (by lia);have h5:r<xs.size:=by lia
  have h6:=h3 r h5 (Nat.le_refl _);have h7:xs[r]≠j:=λq=>hn (by rw[Array.getElem?_eq_getElem h5,q])
  by_cases c:i=0
  ·subst c;rw[e2];simp only[Nat.add_zero];lia
  ·have:=zdF h (show r<r+i by lia) hi2;rw[e2];lia
 have ht:∀y∈xs.toList.take r,y<j:=by
  intro y hy;obtain⟨i,hi,e⟩:=List.getElem_of_mem hy;rw[List.getElem_take]at e;have hi2:i<xs.size:=by simp at hi;lia
  have e2:y=xs[i]:=by rw[<-e];simp
  rw[e2];exact h2 i hi2 (by simp at hi;lia)
 refine List.pairwise_append.mpr ⟨List.Pairwise.sublist (List.take_sublist _ _) h,List.pairwise_cons.mpr ⟨hd,List.Pairwise.sublist (List.drop_sublist _ _) h⟩,λa ha b hb=>?_⟩;rcases List.mem_cons.mp hb with rfl|hb
 ·exact ht a ha
 ·exact Nat.lt_trans (ht a ha) (hd b hb)
theorem ydJ{t:SetTable}{f:Nat->Int}{h:Int}:∀(fuel:Nat) (p:SetTable.Probe) {j:Nat} {d:Option Nat},(∀e,p.dummy=some e->t.slot e = .dummy)->SetTable.probe.go t f h fuel p=some (.empty j d)->t.slot j = .empty/\∀e,d=some e->t.slot e = .dummy
 |0,p,j,d,_,e=>by cases e
 |fuel+1,p,j,d,hp,e=>by
  unfold SetTable.probe.go at e;have adv:∀q:SetTable.Probe,(t.advance q).dummy=q.dummy:=λq=>by unfold SetTable.advance;split <;> rfl
  cases hs:t.slot p.j with
  |empty=>rw[hs]at e;cases e;exact⟨hs,hp⟩
  |dummy=>
   rw[hs]at e;refine ydJ fuel _ (λx hx=>?_) e;rw[adv]at hx;cases hx;exact hs
  |live i=>
   rw[hs]at e;dsimp only at e;split at e
   ·cases e
   ·refine ydJ fuel _ (λx hx=>?_) e;rw[adv]at hx;exact hp x hx
theorem zfQ{t:SetTable}{h:Int}{j:Nat}{b:Bool}(e:t.freeSlot h=some (j,b)):∀i,t.slot j≠.live i:=by
 unfold SetTable.freeSlot at e;split at e
 ·rename_i j' d hm;obtain⟨h1,h2⟩:=ydJ (t:=t) _ _ (λe he=>by cases he) hm;cases e;intro i;cases d with
  |none=>show t.slot j'≠_;rw[h1];exactλq=>nomatch q
  |some d=>show t.slot d≠_;rw[h2 d rfl];exactλq=>nomatch q
 ·cases e
theorem zfI{t:SetTable}{j:Nat}(h:∀i,t.slot j≠.live i):t.place[SetTable.below t.place j]?≠some j:=λe=>by
 refine h (SetTable.below t.place j) ?_;unfold SetTable.slot;dsimp only;rw[if_pos (by rw[e];exact beq_self_eq_true _)]
structure TabG(led:Bool)(t:SetTable):Prop where
 led:t.led=led
 rise:t.plain=true->Rise t.place
theorem TabG.standIn{led:Bool}(h:TabG led t)(n:Nat):TabG led (t.standIn n):=⟨h.led,λe=>by cases e⟩
theorem zgW{led:Bool}(h:TabG led t)(es:Array (Int×Value))(k:Int)(x:Value):TabG led (layNew t es k x).2.1:=by
 unfold layNew;split
 ·rename_i slot wasDummy he;dsimp only;have hp:TabG led (t.put slot).1:=by
   refine⟨h.led,λe=>?_⟩;exact zes (h.rise e) (zfI (zfQ he))
  unfold SetTable.orStandIn;split
  ·exact hp
  ·exact hp.standIn _
 ·exact h.standIn _
theorem yfj{led:Bool}(h:TabG led t)(es:Array (Int×Value))(n:Nat):TabG led (relayAll t es n).2.1:=by
 unfold relayAll;split
 ·rename_i t' order he;have ht:TabG led t':=by
   unfold SetTable.relaid SetTable.laid at he;simp only[Option.bind_eq_bind,Option.bind_eq_some_iff]at he;obtain⟨owner,_,he⟩:=he;cases he;refine⟨h.led,λ_=>?_⟩;unfold Rise;dsimp only;rw[List.pairwise_map,List.pairwise_filterMap];refine List.Pairwise.imp ?_ List.pairwise_lt_range;intro a b hab x hx y hy;cases h1:owner.getD a none with
   |none=>rw[h1]at hx;cases hx
   |some u=>
    cases h2:owner.getD b none with
    |none=>rw[h2]at hy;cases hy
    |some v=>rw[h1]at hx;rw[h2]at hy;cases hx;cases hy;exact hab
  dsimp only;split
  ·exact ht
  ·exact h.standIn _
 ·exact h.standIn _
section
variable {prog:Program} {w:World} {A:Around} {E:Value->Shared->Prop} {s:Shared}
abbrev zfC(w:World):Bool:=w.params.followText "set-order"
noncomputable def SetG(w:World)(prog:Program)(h:Heap)(a:Addr)(S:Int->Bool)(n:Nat):Prop :=
 Ex4 λo es ep t=>h.get? a=some o/\o.ExactSet/\o.data = .set es ep t/\ElemsOf (intKind prog w) es.toList/\(∀k,S k=true↔∃e∈es.toList,(intKind prog w).is k e.2=true)
  /\es.size<scanBound/\t.fits es.size=true/\es.size=n/\TabG (!zfC w) t
theorem zd4{h:Heap}{a:Addr}{o:Obj}{es:Array (Int×Value)}{ep:Nat}{t:SetTable}(ho:h.get? a=some o)(hd:o.data = .set es ep t)(es':Array (Int×Value))(t':SetTable) :
  (h.update a (Obj.putSet es' t')).get? a=some { o with data:=.set es' (ep+1) t' }:=by
 have:=Heap.get?_update_self (Obj.putSet es' t') ho (by rw[putSet_of es' t' hd];rfl);rw[putSet_of es' t' hd]at this;exact this
theorem yiP{S:Int->Bool}{n:Nat}{k:Int}{Q:Bool->Shared->Prop}(hS:SetG w prog s.heap a S n)(hroom:n+1<scanBound)
  (h:∀h' b,Heap.SameBut a s.heap h'->SetG w prog h' a (λk'=>S k'||decide (k'=k)) (if S k then n else n+1)->Q b { s with heap:=h' }) :
  wpAny (model prog w) A (setAddHashed a (.int k tk) ((intKind prog w).hash k)) Q E s:=by
 obtain⟨o,es,ep,t,ho,hex,hd,hel,hmem,hb,hf,hn,hG⟩:=hS;have hkey:(intKind prog w).is k (.int k tk)=true:=intKind_is _ _ _ _;have hsc:(Value.int k tk).scannable=true:=rfl;unfold setAddHashed setAddHashedIn;refine wpAny_holding (wpAny_bind (wpAny_setState_of ho hd hf ?_));dsimp only;rw[byScan_of hsc hb hel,if_pos rfl];unfold setAddByScan;refine wpAny_bind (wpAny_bind (wpAny_rule (wpAny_bind (wpAny_setScan_of hkey ho hd hf hel ?_))));cases hr:List.findIdx? (λe=>(intKind prog w).is k e.2) es.toList with
 |some j=>
  obtain⟨hj,hpj,_⟩:=List.findIdx?_eq_some_iff_getElem.mp hr;have hSk:S k=true:=(hmem k).mpr ⟨es.toList[j],List.getElem_mem hj,hpj⟩;refine wpAny_pure (wpAny_pure ?_);have h1:=h s.heap false (Heap.SameBut.refl a s.heap) ⟨o,es,ep,t,ho,hex,hd,hel,λk'=>by
   rw[Bool.or_eq_true,decide_eq_true_eq,<-hmem k'];exact⟨λhk=>hk.elim id (λe=>e ▸ hSk),.inl⟩,hb,hf,by rw[hSk];exact hn,hG⟩
  exact h1
 |none=>
  have hSk:S k=false:=by
   cases hk:S k with
   |false=>rfl
   |true=>
    obtain⟨e,he,hp⟩:=(hmem k).mp hk;have:=List.findIdx?_eq_none_iff.mp hr e he;rw[hp]at this;cases this
  have hperm:=layNew_perm t es ((intKind prog w).hash k) (.int k tk);have hfits:=layNew_fits t es ((intKind prog w).hash k) (.int k tk);have hG1:=zgW hG es ((intKind prog w).hash k) (.int k tk);dsimp only;generalize layNew t es ((intKind prog w).hash k) (.int k tk)=L at hperm hfits hG1 ⊢;obtain⟨es1,t1,wasDummy,gave⟩:=L;dsimp only at hperm hfits hG1 ⊢;rw[Array.toList_push]at hperm;have hel1:ElemsOf (intKind prog w) es1.toList:=(hel.push hkey hsc).perm hperm;have hmem1:∀k',(S k'||decide (k'=k))=true↔∃e∈es1.toList,(intKind prog w).is k' e.2=true:=mem_push_iff hkey hmem hperm;have hsz1:es1.size=n+1:=by rw[<-Array.length_toList,hperm.length_eq,List.length_append,Array.length_toList,hn];rfl
  have hz:es1.size<=sizeLine:=fits_of_scanBound (by lia);have en:(if S k=true then n else n+1)=n+1:=by rw[hSk];rfl
  rw[en]at h;have fin:∀t2:SetTable,TabG (!zfC w) t2->t2.fits es1.size=true->wpAny (model prog w) A (storeSet a es1 t2 >>= λ_=>if (!wasDummy&&t2.tooFull)=true then
     (match (relayAll t2 es1 (SetTable.grown es1.size)).2.2 with|true=>rule "set.scan.the-table-gave-way"|false=>pure ()) >>= λ_=>storeSet a (relayAll t2 es1 (SetTable.grown es1.size)).1 (relayAll t2 es1 (SetTable.grown es1.size)).2.1 >>= λ_=>pure (some true)
    else pure (some true)) (λr s'=>∃h',s'={ s with heap:=h' }/\r=some true/\Heap.SameBut a s.heap h'/\SetG w prog h' a (λk'=>S k'||decide (k'=k)) (n+1)) E s:=by
   intro t2 g2 f2;refine wpAny_bind (wpAny_storeSet_of ho hd ?_ hz);have o1:=zd4 ho hd es1 t2;have b1:=Heap.SameBut.update s.heap a (Obj.putSet es1 t2);split
   ·have hp:=relayAll_perm t2 es1 (SetTable.grown es1.size);have hfr:=relayAll_fits t2 es1 (SetTable.grown es1.size);have g3:=yfj g2 es1 (SetTable.grown es1.size);generalize relayAll t2 es1 (SetTable.grown es1.size)=Rl at hp hfr g3 ⊢;obtain⟨es2,t3,gave2⟩:=Rl;dsimp only at hp hfr g3 ⊢;have hsz:es2.size=es1.size:=by rw[<-Array.length_toList,hp.length_eq,Array.length_toList]
    have rest:wpAny (model prog w) A (storeSet a es2 t3 >>= λ_=>pure (some true)) (λr s'=>∃h',s'={ s with heap:=h' }/\r=some true/\Heap.SameBut a s.heap h'/\SetG w prog h' a (λk'=>S k'||decide (k'=k)) (n+1)) E { s with heap:=s.heap.update a (Obj.putSet es1 t2) }:=by
     refine wpAny_bind (wpAny_storeSet_of o1 rfl ?_ (by lia));exact wpAny_pure ⟨_,rfl,rfl,b1.trans (Heap.SameBut.update _ a _),_,es2,_,t3,zd4 o1 rfl es2 t3,hex,rfl,hel1.perm hp,λk'=>(hmem1 k').trans ⟨λ⟨e,he,q⟩=>⟨e,hp.mem_iff.mpr he,q⟩,λ⟨e,he,q⟩=>⟨e,hp.mem_iff.mp he,q⟩⟩,by lia,hfr,by lia,g3⟩
    cases gave2
    ·exact wpAny_bind (wpAny_pure rest)
    ·exact wpAny_bind (wpAny_rule rest)
   ·exact wpAny_pure ⟨_,rfl,rfl,b1,_,es1,_,t2,o1,hex,rfl,hel1,hmem1,by lia,f2,hsz1,g2⟩
  have hgw:∀(b:Bool) {s₁:Shared} {Q':Unit->Shared->Prop},Q' () s₁->wpAny (model prog w) A (match b with|true=>rule "set.scan.the-table-gave-way"|false=>pure ()) Q' E s₁ :=
   λb s₁ Q' hq=>by cases b <;> first|exact wpAny_pure hq|exact wpAny_rule hq
  refine wpAny_bind (hgw gave ?_);split
  ·refine wpAny_bind ?_;rw[hashByValue_scannable 8 hsc];refine wpAny_pure ?_;refine thn (fin t1 hG1 hfits) λr s' hq=>?_
   obtain⟨h',e1,e2,b,g⟩:=hq;subst e1;subst e2;exact wpAny_pure (h h' true b g)
  ·refine wpAny_bind (wpAny_pure ?_);refine thn (fin t1 hG1 hfits) λr s' hq=>?_
   obtain⟨h',e1,e2,b,g⟩:=hq;subst e1;subst e2;exact wpAny_pure (h h' true b g)
theorem SetG.at{S:Int->Bool}{n:Nat}(x:SetG w prog h a S n)(e:∀o,h.get? a=some o->h'.get? a=some o):SetG w prog h' a S n:=by
 obtain⟨o,es,ep,t,ho,r⟩:=x;exact⟨o,es,ep,t,e o ho,r⟩
theorem SetG.congr{S S':Int->Bool}{n n':Nat}(x:SetG w prog h a S n)(e:∀k,S k=S' k)(en:n=n'):SetG w prog h a S' n':=by
 have:S=S':=funext e;subst this;subst en;exact x
section
variable {R:Result->Shared->Prop} {I:Addr} {fp wr:List Addr} {G:Array GenState->Array GenState->Prop} {n:Nat} {P:Nat->Value->Prop} {St:Nat->Shared->Prop}
theorem zh8(W:WalksS prog w A.in1 I fp wr G n P St)(S:Addr)(hSf:S∉fp)(val:Nat->Int)(hval:∀i v,P i v->∃t,v = .int (val i) t)(hb:n+1<scanBound):∀(k i:Nat) (s:Shared),n-i=k->i<=n->St i s->
   SetG w prog s.heap S (λk'=>(firstMet val i).any (·==k')) (firstMet val i).length->
   (∀s',Moved (S::wr) G s s'->SetG w prog s'.heap S (λk'=>(firstMet val n).any (·==k')) (firstMet val n).length->R (.ok (.ret .none)) s')->
   codeAny (model prog w) A (.builtin "set.update.loop" ⟨[.ref S,.ref I],[]⟩) R s:=by
 have hSw:S∉wr:=λh=>hSf (W.sub _ h)
 have hsub:∀b∈wr,b∈S::wr:=λb hb=>List.mem_cons_of_mem _ hb
 intro k
 induction k with
 |zero=>
  intro i s hk hi hst hS hR;obtain rfl:i=n:=by lia
  refine codeAny_builtin F.entry_set_update_loop ?_;rw[Around.under_plainId F.plain_set_update_loop _];show wpAny _ A.in1 (pyNext (.ref I) >>= _) _ _ s;refine wpAny_bind (W.done s _ _ hst λs' hm=>?_);exact wpAny_pure (hR s' (hm.mono hsub) (hS.at λo e=>hm.heap S o hSw e))
 |succ k ih=>
  intro i s hk hi hst hS hR;have hlt:i<n:=by lia
  refine codeAny_builtin F.entry_set_update_loop ?_;rw[Around.under_plainId F.plain_set_update_loop _];show wpAny _ A.in1 (pyNext (.ref I) >>= _) _ _ s;refine wpAny_bind (W.item i s _ _ hlt hst λv s' hP hst' hm=>?_);obtain⟨t,rfl⟩:=hval i v hP;have hS':=hS.at (h':=s'.heap) λo e=>hm.heap S o hSw e
  show wpAny _ A.in1 (holding [Value.int (val i) t] (setAdd S (.int (val i) t)) >>= _) _ _ s';refine wpAny_bind (wpAny_holding ?_);unfold setAdd;refine wpAny_holding (wpAny_bind ((intKind prog w).pyHash (k:=val i) (intKind_is _ _ _ _) ?_));have hroom:(firstMet val i).length+1<scanBound:=by have:=firstMet_length_le val i;lia
  refine yiP (s:={ s' with toks:=s'.toks+1 }) hS' hroom λh' b hsb hS2=>?_
  have hSi:SetG w prog h' S (λk'=>(firstMet val (i+1)).any (·==k')) (firstMet val (i+1)).length:=hS2.congr (λk'=>by rw[firstMet_succ,step_any]) (by rw[firstMet_succ,step_length]);refine wpAny_pure ⟨plainId_quiet F.plain_set_update_loop _,ih (i+1) _ (by lia) hlt (W.frame _ s' _ _ hst' (Nat.le_succ _) λb hb o e=>?_) hSi λs'' hm'' hS''=>?_⟩
  ·rw[hsb.2 b (λh:b=S=>hSf (by rw[<-h];exact hb))];exact e
  ·refine hR s'' (Moved.trans W.gtrans ((hm.mono hsub).then_heap (Nat.le_succ _) λb o hb e=>?_) hm'') hS'';rw[hsb.2 b (λh:b=S=>hb (by rw[h];exact List.mem_cons_self))];exact e
end
abbrev zbb(w:World):Obj:={ cls:=.type "set",dict:=none,data:=.set #[] 0 (.fresh 0 0 (!zfC w)) }
theorem zgK(e:h.get? a=some (zbb w)):SetG w prog h a (λ_=>false) 0 :=
 ⟨_,#[],0,_,e,⟨rfl,rfl,rfl⟩,rfl,λe he=>by simp at he,λk=>by simp,by decide,by rfl,rfl,⟨rfl,λ_=>List.Pairwise.nil⟩⟩
theorem yfD(a:Value){Q₁:Value->Shared->Prop}(h:Q₁ (.ref s.heap.objs.size) { s with heap:=s.heap.push (zbb w) }) :
  codeAny (model prog w) A (.call (.builtin "set.__new__") ⟨[.type "set",a],[]⟩) (wants Q₁ E) s:=by
 refine codeAny_of_tree ?_;show wpAny _ A.in1 (do checkBuiltinCall "set.__new__" ⟨[.type "set",a],[]⟩;again (.builtin "set.__new__" ⟨[.type "set",a],[]⟩)) _ _ s;refine wpAny_bind (wpAny_of_eq (F.newCall_set_1 a) (wpAny_pure ⟨plainId_quiet F.plain_set_new _,codeAny_builtin F.entry_set_new ?_⟩));rw[Around.under_plainId F.plain_set_new _];unfold Builtin.«set.__new__» Builtin.Frozenset.newClass;have hsub:=sub_set_self;obtain⟨hp,g,d,tk,os⟩:=s;dsimp only
 wp_walk
 refine wpAny_askSetting (wpAny_pure ?_);dsimp only;simp only[newObj];refine wpAny_bind (wpAny_alloc (wpAny_pure ?_));exact wpAny_pure h
set_option maxHeartbeats 8000000 in
theorem yfn{ns:List Int}(hh:A.handled=none)(hl:s.heap.IsList l items)(hi:IntsAre items.toList ns)(hb:items.size+1<scanBound)
  (h:∀(h':Heap) (tk:Nat),SetG w prog h' s.heap.objs.size (λk'=>(firstMet (λi=>ns.getD i 0) items.size).any (·==k')) (firstMet (λi=>ns.getD i 0) items.size).length->
   (∀b o,s.heap.get? b=some o->h'.get? b=some o)->Q (.ref s.heap.objs.size) { s with heap:=h',toks:=tk }) :
  wpAny (model prog w) A (call (.type "set") [.ref l]) Q E s:=by
 obtain⟨c,tl,hmro⟩:=F.called_set.mro;have hmade:=F.called_set.made;have hsub:=F.called_set.sub;refine wpAny_call (codeAny_of_tree ?_);show wpAny _ _ (callAny (.type "set") _) _ _ _;refine wpAny_pure ⟨Code.quiet_builtin _ (by decide +kernel),codeAny_builtin F.entry_type_call ?_⟩;rw[Around.under_plain (weight_type_call_type "set" [.ref l] []) rfl];have h1:=F.called_set.notType;have h2:=F.called_set.canCreate;have hct:=F.typeCall_set_1 (.ref l)
 repeat (any_goals (first|assumption|wp_step))
 refine codeAny_mono (yfD (.ref l) (E:=E) (Q₁:=λobj s₁=>obj = .ref s.heap.objs.size/\s₁={ s with heap:=s.heap.push (zbb w) }) ⟨rfl,rfl⟩) λr s₁ hr=>?_
 cases r with
 |error e=>exact hr
 |ok fl=>
  cases fl with
  |ret obj=>
   obtain⟨rfl,rfl⟩:=hr;have hS:(s.heap.push (zbb w)).get? s.heap.objs.size=some (zbb w):=Heap.get?_push_size _ rfl;have hT:Shared.TypeIs { s with heap:=s.heap.push (zbb w) } (.ref s.heap.objs.size) "set":=⟨_,hS,rfl⟩
   have hli:=F.called_set.init.lookup;have hbi:=F.called_set.init.bind (.ref s.heap.objs.size)
   repeat (any_goals (first|assumption|wp_step))
   refine codeAny_mono (codeAny_call_builtin (R:=wants (λr s₂=>r = .none/\Ex2 λh' tk=>s₂={ s with heap:=h',toks:=tk }/\
     SetG w prog h' s.heap.objs.size (λk'=>(firstMet (λi=>ns.getD i 0) items.size).any (·==k')) (firstMet (λi=>ns.getD i 0) items.size).length/\
     (∀b o,s.heap.get? b=some o->h'.get? b=some o)) E) F.called_set.init.plain F.entry_set_init (check_set_init_1 hT ?_)) λr₂ s₂ hr₂=>?_
   ·obtain⟨ol,hol,hcl,nl,hdl⟩:=hl;obtain⟨ocls,odict,odata,oslots⟩:=ol;simp only at hcl hdl;subst hcl;subst hdl;have hol':(s.heap.push (zbb w)).get? l=some { cls:=.type "list",dict:=odict,data:=.seq items nl,slots:=oslots }:=Heap.get?_push_of_some _ hol;have hsls:=F.sub_list_set;have hslf:=F.sub_list_frozenset;have hne:(Value.type "list"==Value.type "dict")=false:=by decide
    have hl1:(s.heap.push (zbb w)).IsList l items:=⟨_,hol',rfl,nl,rfl⟩
    unfold Builtin.«set.__init__» noKeywords Builtin.Frozenset.updateFrom;generalize hPI:pyIter=PI
    wp_walk
    subst hPI;refine wpAny_pyIter_list hl1 ?_;refine wpAny_bind (wpAny_runValue ?_);have hlS:l<s.heap.objs.size:=Heap.lt_size hol;have hneI:l≠(s.heap.push (zbb w)).objs.size:=by rw[Heap.size_push];exact Nat.ne_of_lt (Nat.lt_succ_of_lt hlS)
    have hSf:s.heap.objs.size∉[(s.heap.push (zbb w)).objs.size,l]:=by
     rw[Heap.size_push];simp only[List.mem_cons,List.not_mem_nil,or_false,not_or];exact⟨Nat.ne_of_lt (Nat.lt_succ_self _),Nat.ne_of_gt hlS⟩
    refine zh8 ((Walks.list (by simp[hh]) _ l hneI items).toS) s.heap.objs.size hSf (λi=>ns.getD i 0) (λi v hv=>IntsAre.int_at hi i v (by rw[Array.getElem?_toList];exact hv)) hb (items.size-0) 0 _ (by lia) (Nat.zero_le _)
     ⟨⟨_,Heap.get?_push_size _ rfl,rfl,rfl⟩,(hl1.push _)⟩ ((zgK (Heap.get?_push_of_some _ hS)).congr (λ_=>rfl) rfl) λs' hm hS'=>?_
    obtain⟨h',g',d',tk',os'⟩:=s';obtain rfl:g'=s.gens:=hm.gens;obtain rfl:d'=s.drawn:=hm.drawn;obtain rfl:os'=s.os:=hm.os;show wpAny _ _ _ _ _ _;refine wpAny_pure ?_;show wpAny _ _ (ret Value.none) _ _ _;refine wpAny_pure ⟨rfl,h',tk',rfl,hS',λb o e=>?_⟩;have hb:=Heap.lt_size e;refine hm.heap b o ?_ (Heap.get?_push_of_some _ (Heap.get?_push_of_some _ e));simp only[List.mem_cons,List.not_mem_nil,or_false,not_or];rw[Heap.size_push];exact⟨Nat.ne_of_lt hb,Nat.ne_of_lt (Nat.lt_succ_of_lt hb)⟩
   ·cases r₂ with
    |error e=>exact hr₂
    |ok fl₂=>
     cases fl₂ with
     |ret r=>
      obtain⟨rfl,h',tk,rfl,hS',hk'⟩:=hr₂
      repeat (any_goals (first|assumption|wp_step))
      exact h _ _ hS' hk'
     |_=>exact hr₂.elim
  |_=>exact hr.elim
end
end L2
end
section
namespace L2
open PySem PyProof.Rows
end L2
end
section
namespace L2
open PySem PyProof.Rows
section
variable {prog:Program} {w:World} {A:Around} {E:Value->Shared->Prop} {s:Shared}
abbrev GE:Array GenState->Array GenState->Prop:=λa b=>b=a
end
end L2
end
section
namespace L2
open PySem PyProof.Rows
section
variable {prog:Program} {w:World} {A:Around} {E:Value->Shared->Prop} {s:Shared}
structure Left(s s':Shared):Prop where
 heap:∀b o,s.heap.get? b=some o->s'.heap.get? b=some o
 gens:s'.gens=s.gens
 os:s'.os=s.os
 toks:s.toks<=s'.toks
 size:s.heap.objs.size<=s'.heap.objs.size
end
end L2
end
section
namespace L2
open PySem PyProof.Rows
theorem yeb{α:Type}[BEq α][LawfulBEq α]:∀ {σ τ:List α},σ.Nodup->(∀x∈σ,x∈τ)->σ.length<=τ.length
 | [],_,_,_=>Nat.zero_le _
 |x::σ,τ,h,hs=>by
  have hx:x∈τ:=hs x List.mem_cons_self;have h2:=List.nodup_cons.mp h;have:=yeb (σ:=σ) (τ:=τ.erase x) h2.2 λy hy=>(List.mem_erase_of_ne (λe=>h2.1 (by rw[<-e];exact hy))).mpr (hs y (List.mem_cons_of_mem _ hy))
  rw[List.length_erase_of_mem hx]at this;have hp:0 < τ.length:=List.length_pos_of_mem hx;simp only[List.length_cons];omega
theorem zbf(val:Nat->Int):∀i,(firstMet val i).Nodup
 |0=>List.nodup_nil
 |i+1=>by
  rw[firstMet_succ];unfold step_dedup;split
  ·exact zbf val i
  ·rename_i hn;refine List.nodup_append.mpr ⟨zbf val i,by simp,λa ha b hb=>?_⟩;rw[List.mem_singleton]at hb;intro e;exact hn (List.any_eq_true.mpr ⟨a,ha,by rw[e,hb];exact beq_self_eq_true _⟩)
theorem zea(ns:List Int)(k:Int):k∈firstMet (λi=>ns.getD i 0) ns.length↔k∈ns:=by
 have h:=firstMet_any (λi=>ns.getD i 0) ns.length k;have e:(List.range ns.length).map (λi=>ns.getD i 0)=ns:=by
  apply List.ext_getElem
  ·simp
  ·intro i h1 h2;simp[List.getD,h2]
 rw[e]at h;have c:∀l:List Int,l.any (·==k)=true↔k∈l:=λl=>by
  rw[List.any_eq_true];exact⟨λ⟨x,hx,q⟩=>by rw[<-eq_of_beq q];exact hx,λhk=>⟨k,hk,beq_self_eq_true _⟩⟩
 rw[<-c,<-c,h]
end L2
end
section
namespace L2
open PySem PyProof.Rows
theorem yeK:bootBuiltins "set"=some (.type "set"):=by decide +kernel
theorem ybN:bootBuiltins "sorted"=some (.builtin "sorted"):=by decide +kernel
section
variable {X:Cx}
theorem Inv.redraw(I:Inv X pins σ H s)(h1:s'.heap=s.heap)(h2:s'.gens=s.gens)(h3:s'.os=s.os):Inv X pins σ H s' :=
 ⟨I.ok,by rw[h3];exact I.os,by rw[h2];exact I.bare,by rw[h1];exact I.base,by rw[h1];exact I.loc,by rw[h1];exact I.cell,I.free,I.freeC,by rw[h1];exact I.pin,by rw[h1];exact I.hok,I.len⟩
theorem Inv.more{tk:Nat}(I:Inv X pins σ H s)(k:∀b o,s.heap.get? b=some o->h'.get? b=some o):Inv X pins σ H { s with heap:=h',toks:=tk } :=
 I.turnedL (fp:=[]) (λb hb=>nomatch hb) λb o _ e=>k b o e
end
end L2
end
section
namespace L2
open PySem PySem.Spec PyProof.Rows
end L2
end
section
namespace HT
open PySem PyProof.Rows
end HT
namespace L2
open PySem PyProof.Rows
end L2
end
section
namespace HT
open PySem PyProof.Rows
section
variable {prog:Program} {w:World} {A:Around} {E:Value->Shared->Prop} {s:Shared}
theorem getItem_tuple_whole{lo hi:Option Int}(ht:IsTup s.heap t items)(hs:s.heap.IsSliceOf sl vl vu .none)(pl:IsPart vl lo)(pu:IsPart vu hi)
  (hw:sIx items.size 0 lo=0/\sIx items.size items.size hi=items.size) (h:Q (.ref t) s):wpAny (model prog w) A (getItem (.ref t) (.ref sl)) Q E s:=by
 obtain⟨os,hos,hcs,hds⟩:=id hs;have hTs:s.TypeIs (.ref sl) "slice":=⟨os,hos,hcs⟩
 unfold getItem
 try with_reducible refine wpAny_holding ?_
 first|refine wpAny_bind (wpAny_pure ?_)|skip
 refine wpAny_bind (wpAny_sequenceKey ht.typeIs (by decide) ?_);refine wpAny_bind (wpAny_callSpecial?_slot (name:=Str.ofString "__getitem__") ht.typeIs PyProof.Rows.slot_tuple_getitem
  (wpAny_call_entry PyProof.Rows.slot_tuple_getitem ht.typeIs entry_tuple_getitem ?_ (args_tuple_getitem _ _)))
 show wpAny _ _ (Builtin.Tuple.tupleItemsOf (.ref t) >>= _) _ _ s;refine wpAny_bind (tupleItemsOf_ ht ?_);refine wpAny_bind (wpAny_typeOf hTs ?_);rw[if_pos (by decide)];refine wpAny_bind (ybr hs pl pu ?_);have hyes:(((sIx items.size 0 lo:Nat):Int)==0&&(1:Int)==1&&(sIx items.size items.size hi-sIx items.size 0 lo)==items.size)=true:=by
  rw[hw.1,hw.2,Nat.sub_zero];simp
 show wpAny _ _ (if (((sIx items.size 0 lo:Nat):Int)==0&&(1:Int)==1&&(sIx items.size items.size hi-sIx items.size 0 lo)==items.size)=true then _ else _) _ _ s;rw[if_pos hyes];unfold Builtin.Tuple.tupleIsExact;refine wpAny_bind (wpAny_bind (wpAny_typeOf ht.typeIs (wpAny_pure ?_)));rw[if_pos (by decide)]
 first
  |exact wpAny_bind (wpAny_rule (wpAny_pure ⟨_,rfl,wpAny_pure h⟩))
  |exact wpAny_bind (wpAny_bind (wpAny_rule (wpAny_pure (wpAny_pure ⟨_,rfl,wpAny_pure h⟩))))
  |exact wpAny_bind (wpAny_rule (wpAny_bind (wpAny_pure (wpAny_pure ⟨_,rfl,wpAny_pure h⟩))))
  |(refine wpAny_bind (wpAny_rule ?_);trace_state;exact wpAny_pure h)
end
end HT
namespace L2
open PySem PyProof.Rows
section
variable {X:Cx}
noncomputable def rSlA(K:PySem.W.Frag):V->Option Int->Option Int->Hp->VK->Prop:=λx lo hi H Q=>Ex2 λa xs=>x = .ref a/\SqT K H a xs/\(cutV xs lo hi=xs->Q (.ref a) H)/\∀p,H p=none->Q (.ref p) (upd H p (.tup (cutV xs lo hi)))
theorem zgl:SlR X (rSlA X.K):=by
 intro pins s σ H x v vl vu lo hi sl Q I rx hs pl pu h;obtain⟨a,xs,rfl,hx,q1,q⟩:=h;by_cases hw:HT.sIx xs.length 0 lo=0/\HT.sIx xs.length xs.length hi=xs.length
 ·cases rx;obtain⟨its,r,ht,hz⟩:=I.tuple hx;have hlen:its.toArray.size=xs.length:=by rw[List.size_toArray];exact r.length.symm
  refine⟨"tuple",_,PyProof.Rows.slot_tuple_getitem.lookup,ht.typeIs,?_⟩;refine HT.getItem_tuple_whole ht hs pl pu (by rw[hlen];exact hw) ?_;exact⟨.ref a,H,I,rfl,q1 (by unfold cutV;rw[hw.1,hw.2,Nat.sub_zero,List.drop_zero,List.take_length])⟩
 ·exact yii pins s σ H _ v vl vu lo hi sl Q I rx hs pl pu ⟨a,xs,rfl,hx,hw,q⟩
end
end L2
end
section
namespace L2
open PySem PySem.Spec PyProof.Rows
end L2
end
section
namespace L2
open PySem PySem.Spec PyProof.Rows
end L2
namespace L2
open PySem PySem.Spec PyProof.Rows
section
variable {X:Cx} {K:PySem.W.Frag}
theorem ygu(h:X.K=K):ya4 X (.builtin "isinstance") (rIsi K "int"):=h ▸ zhV
theorem ygm(h:X.K=K):ya4 X (.builtin "isinstance") (rIsi K "bool"):=h ▸ zg1
end
end L2
end
section
namespace L2
open PySem PySem.Spec PyProof.Rows
structure DOk(d:PyData)(w:Nat):Prop where
 sh:d.showable=true
 nd:d.hasDict=false
 dp:d.depth<=40
 sl:d.leavesShort 8=true
 we:d.weight<=w
end L2
end
section
namespace L2
open PySem PySem.Spec PyProof.Rows
end L2
end
section
namespace L2
open PySem PySem.Spec PyProof.Rows
end L2
end
section
namespace L2
open PySem PySem.Spec PyProof.Rows
end L2
end
section
set_option autoImplicit false
namespace L2
inductive An3 (p0 p1 p2:Prop):Prop|mk (_:p0) (_:p1) (_:p2):An3 p0 p1 p2
inductive An4 (p0 p1 p2 p3:Prop):Prop|mk (_:p0) (_:p1) (_:p2) (_:p3):An4 p0 p1 p2 p3
inductive An5 (p0 p1 p2 p3 p4:Prop):Prop|mk (_:p0) (_:p1) (_:p2) (_:p3) (_:p4):An5 p0 p1 p2 p3 p4
inductive An6 (p0 p1 p2 p3 p4 p5:Prop):Prop|mk (_:p0) (_:p1) (_:p2) (_:p3) (_:p4) (_:p5):An6 p0 p1 p2 p3 p4 p5
end L2
namespace Dg
def dg(p i x:Nat):Nat:=x/p^i%p
theorem zbc(p x:Nat):dg p 0 x=x%p:=by simp[dg]
theorem ybn(p i x:Nat):dg p (i+1) x=dg p i (x/p):=by
 unfold dg;rw[Nat.pow_succ,Nat.mul_comm,Nat.div_div_eq_div_mul]
theorem yir{p:Nat}(hp:2<=p)(i x:Nat):dg p i x<p:=Nat.mod_lt _ (by lia)
theorem zal{p:Nat}(hp:2<=p){i k x:Nat}(h:x<p^k)(hk:k<=i):dg p i x=0:=by
 unfold dg;have:x<p^i:=Nat.lt_of_lt_of_le h (Nat.pow_le_pow_right (by lia) hk);rw[Nat.div_eq_of_lt this,Nat.zero_mod]
theorem za6(p i:Nat):dg p i 0=0:=by simp[dg]
theorem ext{p:Nat}(hp:2<=p):∀ {a b:Nat},(∀i,dg p i a=dg p i b)->a=b:=by
 intro a
 induction a using Nat.strongRecOn with
 |_ a ih=>
  intro b h;have h0:=h 0;rw[zbc,zbc]at h0;by_cases ha:a=0
  ·subst ha;have key:∀n,∀b,b<=n->(∀i,dg p i b=0)->b=0:=by
    intro n
    induction n with
    |zero=>intro b hb _;lia
    |succ n ihn=>
     intro b hb hz;by_cases hb0:b=0
     ·exact hb0
     ·have hlt:b/p<b:=Nat.div_lt_self (by lia) (by lia);have hd:b/p=0:=ihn (b/p) (by lia) λi=>by rw[<-ybn];exact hz (i+1)
      have hm:b%p=0:=by rw[<-zbc];exact hz 0
      have:=Nat.div_add_mod b p;rw[hd,hm]at this
      simpa using this.symm
   exact(key b b (Nat.le_refl _) λi=>by rw[<-h i,za6]).symm
  ·have hlt:a/p<a:=Nat.div_lt_self (by lia) (by lia);have hd:a/p=b/p:=ih (a/p) hlt λi=>by rw[<-ybn,<-ybn];exact h (i+1)
   have e1:=Nat.div_add_mod a p;have e2:=Nat.div_add_mod b p;rw[<-e1,<-e2,hd,h0]
theorem zce{p:Nat}(hp:2<=p){j r:Nat}(h:∀i,j<=i->dg p i r=0):r<p^j:=by
 have hpos:0<p^j:=Nat.pow_pos (by lia);have hq:r/p^j=0:=by
  refine ext hp λi=>?_
  rw[za6];have:=h (j+i) (by lia);unfold dg at this ⊢;rw[Nat.pow_add,<-Nat.div_div_eq_div_mul]at this;exact this
 have:=Nat.div_add_mod r (p^j);rw[hq,Nat.mul_zero,Nat.zero_add]at this;rw[<-this];exact Nat.mod_lt _ hpos
theorem zfZ{p:Nat}(hp:2<=p){k t d:Nat}(ht:t<p^k)(hd:d<p)(i:Nat):dg p i (t+d*p^k)=if i=k then d else dg p i t:=by
 have hpos:0<p^k:=Nat.pow_pos (by lia);unfold dg;by_cases h1:i<k
 ·rw[if_neg (by lia)];obtain⟨c,rfl⟩:∃c,k=i+(c+1):=⟨k-i-1,by lia⟩
  have e:d*p^(i+(c+1))=p^i*(d*p^c*p):=by rw[Nat.pow_add,Nat.pow_succ];ac_rfl
  rw[e,Nat.add_mul_div_left _ _ (Nat.pow_pos (by lia)),Nat.add_mul_mod_self_right]
 ·by_cases h2:i=k
  ·subst h2;rw[if_pos rfl,Nat.add_mul_div_right _ _ hpos,Nat.div_eq_of_lt ht,Nat.zero_add,Nat.mod_eq_of_lt hd]
  ·rw[if_neg h2];have hlt:t+d*p^k<p^i:=by
    have:t+d*p^k<p^(k+1):=by
     rw[Nat.pow_succ]
     calc t+d*p^k<p^k+d*p^k:=by lia
      _=(d+1)*p^k:=by rw[Nat.add_mul];lia
      _<=p*p^k:=Nat.mul_le_mul_right _ hd
      _=p^k*p:=Nat.mul_comm _ _
    exact Nat.lt_of_lt_of_le this (Nat.pow_le_pow_right (by lia) (by lia))
   rw[Nat.div_eq_of_lt hlt,Nat.div_eq_of_lt (Nat.lt_of_lt_of_le ht (Nat.pow_le_pow_right (by lia) (by lia)))]
theorem zfx{p:Nat}{k t d:Nat}(ht:t<p^k)(hd:d<p):t+d*p^k<p^(k+1):=by
 rw[Nat.pow_succ]
 calc t+d*p^k<p^k+d*p^k:=by lia
  _=(d+1)*p^k:=by rw[Nat.add_mul];lia
  _<=p*p^k:=Nat.mul_le_mul_right _ hd
  _=p^k*p:=Nat.mul_comm _ _
def yaE(f:Nat->Nat):Nat->Nat:=λi=>if i=0 then 0 else f (i-1)
def yay(m:Nat)(t f:Nat->Nat):Nat->Nat:=λi=>if i<m then yaE f i+f (m-1)*t i else 0
noncomputable def tn(m:Nat)(t:Nat->Nat):Nat->(Nat->Nat)->(Nat->Nat)->Nat->Nat
 |0,_,_=>λ_=>0
 |k+1,f,y=>λi=>f 0*y i+tn m t k (λj=>f (j+1)) (yay m t y) i
def ybp(m:Nat)(t:Nat->Nat)(q:Nat)(f:Nat->Nat):Nat->Nat:=λi=>f i+if q-m<=i/\i<q then f q*t (i-(q-m)) else 0
def redF(m:Nat)(t:Nat->Nat):Nat->(Nat->Nat)->(Nat->Nat)
 |0,f=>f
 |j+1,f=>redF m t j (ybp m t (m+j) f)
def ydu:Nat->(Nat->Nat)->(Nat->Nat)->Nat->Nat
 |0,_,_=>λ_=>0
 |k+1,f,y=>λi=>f 0*y i+yaE (ydu k (λj=>f (j+1)) y) i
section
variable {m:Nat} {t:Nat->Nat}
theorem yfU(q c:Nat)(f g:Nat->Nat):ybp m t q (λi=>c*f i+g i)=λi=>c*ybp m t q f i+ybp m t q g i:=by
 funext i
 unfold ybp;split
 ·dsimp only;rw[Nat.mul_add,Nat.add_mul];ac_rfl
 ·simp
theorem yeT(c:Nat):∀(j:Nat) (f g:Nat->Nat),redF m t j (λi=>c*f i+g i)=λi=>c*redF m t j f i+redF m t j g i
 |0,f,g=>rfl
 |j+1,f,g=>by
  show redF m t j (ybp m t (m+j) λi=>c*f i+g i)=_;rw[yfU,yeT c j];rfl
theorem yej{q:Nat}(hq:m<=q)(f:Nat->Nat):ybp m t (q+1) (yaE f)=yaE (ybp m t q f):=by
 funext i
 unfold ybp yaE;by_cases h0:i=0
 ·subst h0;rw[if_pos rfl,if_pos rfl];rw[if_neg (by lia)]
 ·rw[if_neg h0,if_neg h0,if_neg (show ¬ q+1=0 by lia)];congr 1;by_cases h1:q-m<=i-1/\i-1<q
  ·rw[if_pos h1,if_pos (by lia),Nat.add_sub_cancel];congr 2
   lia
  ·rw[if_neg h1,if_neg (by lia)]
theorem zdc(hm:1<=m):∀(j:Nat) (f:Nat->Nat) (i:Nat),i<m->redF m t (j+1) (yaE f) i=yay m t (redF m t j f) i
 |0,f,i,hi=>by
  show ybp m t (m+0) (yaE f) i=yay m t f i;unfold ybp yay;rw[if_pos hi,if_pos (by lia)];congr 1;show yaE f (m+0)*t (i-(m+0-m))=_;unfold yaE;rw[if_neg (by lia)];simp
 |j+1,f,i,hi=>by
  show redF m t (j+1) (ybp m t (m+(j+1)) (yaE f)) i=yay m t (redF m t j (ybp m t (m+j) f)) i;rw[<-zdc hm j (ybp m t (m+j) f) i hi,<-yej (by lia)];rfl
theorem zeR:∀(j:Nat) (f:Nat->Nat),(∀q,m<=q->f q=0)->redF m t j f=f
 |0,f,_=>rfl
 |j+1,f,h=>by
  have e:ybp m t (m+j) f=f:=by
   funext i
   unfold ybp;rw[h (m+j) (by lia)];simp
  show redF m t j (ybp m t (m+j) f)=f;rw[e];exact zeR j f h
theorem zdS(c:Nat)(f g:Nat->Nat):yay m t (λi=>c*f i+g i)=λi=>c*yay m t f i+yay m t g i:=by
 funext i
 unfold yay yaE;split
 ·split
  ·simp[Nat.mul_add,Nat.add_mul,Nat.mul_assoc]
  ·dsimp only;rw[Nat.mul_add,Nat.add_mul];ac_rfl
 ·simp
theorem zev:∀(k:Nat) (f y:Nat->Nat),yay m t (tn m t k f y)=tn m t k f (yay m t y)
 |0,f,y=>by
  funext i
  show yay m t (λ_=>0) i=0;unfold yay yaE;split
  ·split <;> simp
  ·rfl
 |k+1,f,y=>by
  show yay m t (λi=>f 0*y i+tn m t k (λj=>f (j+1)) (yay m t y) i)=_;rw[zdS,zev k];rfl
theorem zeZ(hm:1<=m):∀(k:Nat) (f y:Nat->Nat),(∀q,m<=q->y q=0)->∀i,i<m->redF m t k (ydu (k+1) f y) i=tn m t (k+1) f y i
 |0,f,y,hy,i,hi=>by
  show f 0*y i+yaE (λ_=>0) i=f 0*y i+0;unfold yaE;split <;> rfl
 |k+1,f,y,hy,i,hi=>by
  show redF m t (k+1) (λi=>f 0*y i+yaE (ydu (k+1) (λj=>f (j+1)) y) i) i=f 0*y i+tn m t (k+1) (λj=>f (j+1)) (yay m t y) i;rw[yeT];show f 0*redF m t (k+1) y i+redF m t (k+1) (yaE (ydu (k+1) (λj=>f (j+1)) y)) i=_;rw[zeR (k+1) y hy,zdc hm k _ i hi];congr 1;have e:∀i,i<m->redF m t k (ydu (k+1) (λj=>f (j+1)) y) i=tn m t (k+1) (λj=>f (j+1)) y i:=λi hi=>zeZ hm k _ y hy i hi
  rw[<-zev];unfold yay yaE;rw[if_pos hi,if_pos hi,e (m-1) (by lia)];by_cases h0:i=0
  ·rw[if_pos h0,if_pos h0]
  ·rw[if_neg h0,if_neg h0,e (i-1) (by lia)]
end
theorem ycg{m:Nat}{t:Nat->Nat}:∀(k:Nat) (f y:Nat->Nat) (i:Nat),(∀j,f j=0)->tn m t k f y i=0
 |0,_,_,_,_=>rfl
 |k+1,f,y,i,h=>by
  show f 0*y i+tn m t k (λj=>f (j+1)) (yay m t y) i=0;rw[h 0,ycg k _ _ i λj=>h (j+1)];simp
theorem zbo{p a b c d:Nat}(h1:a%p=c%p)(h2:b%p=d%p):(a+b)%p=(c+d)%p:=by rw[Nat.add_mod,h1,h2,<-Nat.add_mod]
theorem yds{p a b c d:Nat}(h1:a%p=c%p)(h2:b%p=d%p):(a*b)%p=(c*d)%p:=by rw[Nat.mul_mod,h1,h2,<-Nat.mul_mod]
theorem yeI{p m:Nat}(hm:1<=m){t y y':Nat->Nat}(h:∀i,i<m->y i%p=y' i%p)(i:Nat):yay m t y i%p=yay m t y' i%p:=by
 unfold yay yaE;split
 ·refine zbo ?_ (yds (h (m-1) (by lia)) rfl);split
  ·rfl
  ·exact h (i-1) (by lia)
 ·rfl
theorem za9{p m:Nat}(hm:1<=m){t:Nat->Nat}:∀(k:Nat) (f y y':Nat->Nat),(∀i,i<m->y i%p=y' i%p)->∀i,i<m->tn m t k f y i%p=tn m t k f y' i%p
 |0,_,_,_,_,_,_=>rfl
 |k+1,f,y,y',h,i,hi=>zbo (yds rfl (h i hi)) (za9 hm k _ _ _ (λj _=>yeI hm h j) i hi)
theorem ycM(p x:Nat):(λj=>dg p (j+1) x)=λj=>dg p j (x/p):=by funext j;exact ybn p j x
theorem zd3(p i x:Nat):dg p i x%p=dg p i x:=by unfold dg;exact Nat.mod_mod _ _
theorem yih{p:Nat}(hp:2<=p)(k i x:Nat):dg p i (x%p^k)=if i<k then dg p i x else 0:=by
 by_cases h:i<k
 ·rw[if_pos h];unfold dg;obtain⟨c,rfl⟩:∃c,k=i+(c+1):=⟨k-i-1,by lia⟩
  rw[Nat.pow_add,Nat.mod_mul_right_div_self,Nat.pow_succ,Nat.mul_comm (p^c) p,Nat.mod_mul_right_mod]
 ·rw[if_neg h];exact zal hp (Nat.mod_lt _ (Nat.pow_pos (by lia))) (by lia)
theorem yiL{p:Nat}(hp:2<=p)(i x:Nat):dg p i (x*p)=if i=0 then 0 else dg p (i-1) x:=by
 cases i with
 |zero=>rw[zbc,if_pos rfl,Nat.mul_mod_left]
 |succ i=>rw[if_neg (by lia),ybn,Nat.mul_div_cancel _ (by lia)];rfl
theorem yhk{p m x:Nat}(hp:2<=p)(hm:1<=m)(h:x<p^m):x/p^(m-1)=dg p (m-1) x:=by
 unfold dg;rw[Nat.mod_eq_of_lt];obtain⟨c,rfl⟩:∃c,m=c+1:=⟨m-1,by lia⟩
 exact Nat.div_lt_of_lt_mul (by simpa[Nat.pow_succ]using h)
end Dg
end
section
namespace Dg
def ofF(p:Nat):Nat->(Nat->Nat)->Nat
 |0,_=>0
 |m+1,f=>f 0%p+p*ofF p m (λj=>f (j+1))
theorem ye1{p:Nat}(hp:2<=p):∀(m:Nat) (f:Nat->Nat),ofF p m f<p^m
 |0,f=>by simp[ofF]
 |m+1,f=>by
  have h:=ye1 hp m λj=>f (j+1)
  have h1:f 0%p<p:=Nat.mod_lt _ (by lia);show f 0%p+p*ofF p m (λj=>f (j+1))<p^(m+1)
  calc f 0%p+p*ofF p m (λj=>f (j+1))<p+p*ofF p m (λj=>f (j+1)):=by lia
   _=p*(ofF p m (λj=>f (j+1))+1):=by rw[Nat.mul_add,Nat.mul_one,Nat.add_comm]
   _<=p*p^m:=Nat.mul_le_mul_left _ h
   _=p^(m+1):=by rw[Nat.pow_succ,Nat.mul_comm]
theorem ydT{p:Nat}(hp:2<=p):∀(m:Nat) (f:Nat->Nat) (i:Nat),dg p i (ofF p m f)=if i<m then f i%p else 0
 |0,f,i=>by simp[ofF,za6]
 |m+1,f,i=>by
  have h1:f 0%p<p:=Nat.mod_lt _ (by lia);cases i with
  |zero=>
   rw[if_pos (by lia),zbc];show(f 0%p+p*ofF p m (λj=>f (j+1)))%p=f 0%p;rw[Nat.add_mul_mod_self_left,Nat.mod_mod]
  |succ i=>
   rw[ybn];show dg p i ((f 0%p+p*ofF p m (λj=>f (j+1)))/p)=_;rw[Nat.add_mul_div_left _ _ (by lia),Nat.div_eq_of_lt h1,Nat.zero_add,ydT hp m];by_cases h:i<m
   ·rw[if_pos h,if_pos (by lia)]
   ·rw[if_neg h,if_neg (by lia)]
theorem zbB{p:Nat}(hp:2<=p){m a b:Nat}(ha:a<p^m)(hb:b<p^m)(h:∀i,i<m->dg p i a=dg p i b):a=b :=
 ext hp λi=>by
  by_cases hi:i<m
  ·exact h i hi
  ·rw[zal hp ha (by lia),zal hp hb (by lia)]
abbrev dgs(p x:Nat):Nat->Nat:=λi=>dg p i x
def add(p m x y:Nat):Nat:=ofF p m λi=>dg p i x+dg p i y
def sub(p m x y:Nat):Nat:=ofF p m λi=>dg p i x+(p-1)*dg p i y
def up(p m t x:Nat):Nat:=ofF p m (yay m (dgs p t) (dgs p x))
noncomputable def mulN(p m t:Nat):Nat->Nat->Nat->Nat
 |0,_,_=>0
 |k+1,x,y=>ofF p m λi=>x%p*dg p i y+dg p i (mulN p m t k (x/p) (up p m t y))
def mul(p m t x y:Nat):Nat:=mulN p m t m x y
section
variable {p m t:Nat} (hp:2<=p) (hm:1<=m)
include hp hm
theorem zfF:∀(k x y i:Nat),i<m->dg p i (mulN p m t k x y)=tn m (dgs p t) k (dgs p x) (dgs p y) i%p
 |0,x,y,i,hi=>by show dg p i 0=0%p;rw[za6];simp
 |k+1,x,y,i,hi=>by
  show dg p i (ofF p m λi=>x%p*dg p i y+dg p i (mulN p m t k (x/p) (up p m t y)))=_;rw[ydT hp,if_pos hi];show _=(dg p 0 x*dg p i y+tn m (dgs p t) k (λj=>dg p (j+1) x) (yay m (dgs p t) (dgs p y)) i)%p;rw[zfF k _ _ i hi,zbc];refine zbo rfl ?_;rw[Nat.mod_mod,ycM];refine za9 hm k _ _ _ (λj hj=>?_) i hi;show dg p j (up p m t y)%p=_;unfold up;rw[ydT hp,if_pos hj,Nat.mod_mod]
theorem zht:∀(k x y:Nat),mulN p m t k x y<p^m
 |0,x,y=>Nat.pow_pos (by lia)
 |k+1,x,y=>ye1 hp _ _
theorem yap(x y:Nat):mul p m t x y<p^m:=zht hp hm _ _ _
theorem ya8(x y:Nat):add p m x y<p^m:=ye1 hp _ _
theorem zby(x y:Nat):sub p m x y<p^m:=ye1 hp _ _
theorem ybg(x y i:Nat)(hi:i<m):dg p i (mul p m t x y)=tn m (dgs p t) m (dgs p x) (dgs p y) i%p:=zfF hp hm m x y i hi
theorem ybz(x y i:Nat)(hi:i<m):dg p i (add p m x y)=(dg p i x+dg p i y)%p:=by unfold add;rw[ydT hp,if_pos hi]
theorem yeU(x y i:Nat)(hi:i<m):dg p i (sub p m x y)=(dg p i x+(p-1)*dg p i y)%p:=by unfold sub;rw[ydT hp,if_pos hi]
theorem zb1{x y r:Nat}(hr:r<p^m)(h:∀i,i<m->dg p i r=tn m (dgs p t) m (dgs p x) (dgs p y) i%p):r=mul p m t x y :=
 zbB hp hr (yap hp hm x y) λi hi=>by rw[h i hi,ybg hp hm x y i hi]
theorem zeY{x y r:Nat}(hx:x<p^m)(hy:y<p^m)(h:∀i,dg p i r=(dg p i x+dg p i y)%p):r=add p m x y :=
 ext hp λi=>by
  by_cases hi:i<m
  ·rw[h,ybz hp hm x y i hi]
  ·rw[h,zal hp (ya8 hp hm x y) (by lia),zal hp hx (by lia),zal hp hy (by lia)];simp
theorem ye8{x y r:Nat}(hx:x<p^m)(hy:y<p^m)(h:∀i,dg p i r=(dg p i x+(p-1)*dg p i y)%p):r=sub p m x y :=
 ext hp λi=>by
  by_cases hi:i<m
  ·rw[h,yeU hp hm x y i hi]
  ·rw[h,zal hp (zby hp hm x y) (by lia),zal hp hx (by lia),zal hp hy (by lia)];simp
end
section
variable {m:Nat} {t:Nat->Nat}
theorem zd5(c:Nat):∀(k:Nat) (f y z:Nat->Nat),tn m t k f (λi=>c*y i+z i)=λi=>c*tn m t k f y i+tn m t k f z i
 |0,f,y,z=>by funext i;rfl
 |k+1,f,y,z=>by
  funext i
  show f 0*(c*y i+z i)+tn m t k (λj=>f (j+1)) (yay m t λi=>c*y i+z i) i=c*(f 0*y i+tn m t k (λj=>f (j+1)) (yay m t y) i)+(f 0*z i+tn m t k (λj=>f (j+1)) (yay m t z) i);rw[zdS,zd5 c k];dsimp only;rw[Nat.mul_add,Nat.mul_add,Nat.mul_left_comm]
  lia
theorem yeH:∀(k l:Nat) (f g y:Nat->Nat),tn m t k f (tn m t l g y)=tn m t l g (tn m t k f y)
 |0,l,f,g,y=>by
  show(λ_=>0)=tn m t l g (λ_=>0);have h:=zd5 (m:=m) (t:=t) 0 l g (λ_=>0) (λ_=>0)
  funext i
  have h2:=zd5 (m:=m) (t:=t) 1 l g (λ_=>0) (λ_=>0);have h3:=congrFun h2 i;simp at h3;exact h3.symm
 |k+1,l,f,g,y=>by
  show(λi=>f 0*tn m t l g y i+tn m t k (λj=>f (j+1)) (yay m t (tn m t l g y)) i)=tn m t l g (λi=>f 0*y i+tn m t k (λj=>f (j+1)) (yay m t y) i);rw[zev,yeH k,zd5]
def zbT(s:Nat):Nat->Nat:=λi=>if i=s then 1 else 0
theorem zfP{s:Nat}(h:s+1<m):yay m t (zbT s)=zbT (s+1):=by
 funext i
 unfold yay yaE zbT;rw[if_neg (show ¬ m-1=s by lia),Nat.zero_mul,Nat.add_zero];by_cases hi:i<m
 ·rw[if_pos hi];by_cases h0:i=0
  ·rw[if_pos h0,if_neg (by lia)]
  ·rw[if_neg h0];by_cases hs:i-1=s
   ·rw[if_pos hs,if_pos (by lia)]
   ·rw[if_neg hs,if_neg (by lia)]
 ·rw[if_neg hi,if_neg (by lia)]
theorem zfH:∀(k s:Nat) (f:Nat->Nat) (i:Nat),s+k<=m->tn m t k f (zbT s) i=if s<=i/\i<s+k then f (i-s) else 0
 |0,s,f,i,_=>by rw[if_neg (by lia)];rfl
 |k+1,s,f,i,h=>by
  show f 0*zbT s i+tn m t k (λj=>f (j+1)) (yay m t (zbT s)) i=_;cases k with
  |zero=>
   show f 0*zbT s i+0=_;unfold zbT;by_cases hi:i=s
   ·rw[if_pos hi,if_pos (by lia)];subst hi;simp
   ·rw[if_neg hi,if_neg (by lia)];simp
  |succ k=>
   rw[zfP (by lia),zfH (k+1) (s+1) _ i (by lia)];unfold zbT;by_cases hi:i=s
   ·subst hi;rw[if_pos rfl,if_neg (by lia),if_pos (by lia)];simp
   ·rw[if_neg hi];by_cases h2:s+1<=i/\i<s+1+(k+1)
    ·rw[if_pos h2,if_pos (by lia)];show f 0*0+f (i-(s+1)+1)=f (i-s);rw[Nat.mul_zero,Nat.zero_add];congr 1;lia
    ·rw[if_neg h2,if_neg (by lia)];simp
theorem ygc(f:Nat->Nat)(i:Nat)(hi:i<m):tn m t m f (zbT 0) i=f i:=by
 rw[zfH m 0 f i (by lia),if_pos (by lia),Nat.sub_zero]
end
section
variable {p m t:Nat} (hp:2<=p) (hm:1<=m)
include hp hm
theorem mul_comm(x y:Nat):mul p m t x y=mul p m t y x:=by
 refine zbB hp (yap hp hm _ _) (yap hp hm _ _) λi hi=>?_
 rw[ybg hp hm _ _ i hi,ybg hp hm _ _ i hi];have h1:=za9 (p:=p) hm (t:=dgs p t) m (dgs p x) (dgs p y) (tn m (dgs p t) m (dgs p y) (zbT 0)) (λj hj=>by rw[ygc _ j hj]) i hi;have h2:=za9 (p:=p) hm (t:=dgs p t) m (dgs p y) (dgs p x) (tn m (dgs p t) m (dgs p x) (zbT 0)) (λj hj=>by rw[ygc _ j hj]) i hi;rw[h1,h2,yeH]
theorem mul_left_comm(x y z:Nat):mul p m t x (mul p m t y z)=mul p m t y (mul p m t x z):=by
 refine zbB hp (yap hp hm _ _) (yap hp hm _ _) λi hi=>?_
 rw[ybg hp hm _ _ i hi,ybg hp hm _ _ i hi];have h1:=za9 (p:=p) hm (t:=dgs p t) m (dgs p x) (dgs p (mul p m t y z)) (tn m (dgs p t) m (dgs p y) (dgs p z)) (λj hj=>by show dg p j _%p=_;rw[ybg hp hm _ _ j hj,Nat.mod_mod]) i hi;have h2:=za9 (p:=p) hm (t:=dgs p t) m (dgs p y) (dgs p (mul p m t x z)) (tn m (dgs p t) m (dgs p x) (dgs p z)) (λj hj=>by show dg p j _%p=_;rw[ybg hp hm _ _ j hj,Nat.mod_mod]) i hi;rw[h1,h2,yeH]
theorem mul_assoc(x y z:Nat):mul p m t (mul p m t x y) z=mul p m t x (mul p m t y z):=by
 rw[mul_comm hp hm _ z,mul_left_comm hp hm z x y,mul_comm hp hm z y]
theorem mul_add(x y z:Nat):mul p m t x (add p m y z)=add p m (mul p m t x y) (mul p m t x z):=by
 refine zbB hp (yap hp hm _ _) (ya8 hp hm _ _) λi hi=>?_
 rw[ybg hp hm _ _ i hi,ybz hp hm _ _ i hi,ybg hp hm _ _ i hi,ybg hp hm _ _ i hi];have h1:=za9 (p:=p) hm (t:=dgs p t) m (dgs p x) (dgs p (add p m y z)) (λi=>1*dgs p y i+dgs p z i) (λj hj=>by show dg p j _%p=(1*dg p j y+dg p j z)%p;rw[ybz hp hm _ _ j hj,Nat.mod_mod,Nat.one_mul]) i hi;rw[h1,zd5];dsimp only;rw[Nat.one_mul,<-Nat.add_mod]
theorem zap:1<p^m:=by
 have:p^1<=p^m:=Nat.pow_le_pow_right (by lia) hm;rw[Nat.pow_one]at this;lia
theorem yh0(i:Nat):dg p i 1=zbT 0 i:=by
 unfold zbT;cases i with
 |zero=>rw[zbc,if_pos rfl,Nat.mod_eq_of_lt (by lia)]
 |succ i=>rw[if_neg (by lia),ybn,Nat.div_eq_of_lt (by lia),za6]
theorem mul_one{x:Nat}(hx:x<p^m):mul p m t x 1=x:=by
 refine zbB hp (yap hp hm _ _) hx λi hi=>?_
 rw[ybg hp hm _ _ i hi,show dgs p 1=zbT 0 from funext λi=>yh0 hp hm i,ygc _ i hi,zd3]
theorem one_mul{x:Nat}(hx:x<p^m):mul p m t 1 x=x:=by rw[mul_comm hp hm,mul_one hp hm hx]
theorem zero_mul(x:Nat):mul p m t 0 x=0:=by
 refine zbB hp (yap hp hm _ _) (Nat.pow_pos (by lia)) λi hi=>?_
 rw[ybg hp hm _ _ i hi,ycg _ _ _ _ (λj=>za6 p j),za6];simp
theorem mul_zero(x:Nat):mul p m t x 0=0:=by rw[mul_comm hp hm,zero_mul hp hm]
theorem add_comm(x y:Nat):add p m x y=add p m y x:=by
 unfold add;congr 1;funext i;exact Nat.add_comm _ _
theorem add_assoc(x y z:Nat):add p m (add p m x y) z=add p m x (add p m y z):=by
 refine zbB hp (ya8 hp hm _ _) (ya8 hp hm _ _) λi hi=>?_
 rw[ybz hp hm _ _ i hi,ybz hp hm _ _ i hi,ybz hp hm _ _ i hi,ybz hp hm _ _ i hi,Nat.mod_add_mod,Nat.add_mod_mod,Nat.add_assoc]
theorem add_zero{x:Nat}(hx:x<p^m):add p m x 0=x:=by
 refine zbB hp (ya8 hp hm _ _) hx λi hi=>?_
 rw[ybz hp hm _ _ i hi,za6,Nat.add_zero,zd3]
theorem zero_add{x:Nat}(hx:x<p^m):add p m 0 x=x:=by rw[add_comm hp hm,add_zero hp hm hx]
theorem ybB{x y:Nat}(hx:x<p^m):add p m (sub p m x y) y=x:=by
 refine zbB hp (ya8 hp hm _ _) hx λi hi=>?_
 rw[ybz hp hm _ _ i hi,yeU hp hm _ _ i hi,Nat.mod_add_mod,show dg p i x+(p-1)*dg p i y+dg p i y=dg p i x+p*dg p i y by obtain⟨k,rfl⟩:∃k,p=k+1:=⟨p-1,by lia⟩;rw[Nat.add_sub_cancel,Nat.add_mul];lia,Nat.add_mul_mod_self_left,zd3]
theorem zbe{x y:Nat}(hx:x<p^m):sub p m (add p m x y) y=x:=by
 refine zbB hp (zby hp hm _ _) hx λi hi=>?_
 rw[yeU hp hm _ _ i hi,ybz hp hm _ _ i hi,Nat.mod_add_mod,show dg p i x+dg p i y+(p-1)*dg p i y=dg p i x+p*dg p i y by obtain⟨k,rfl⟩:∃k,p=k+1:=⟨p-1,by lia⟩;rw[Nat.add_sub_cancel,Nat.add_mul];lia,Nat.add_mul_mod_self_left,zd3]
def pw(p m t x:Nat):Nat->Nat
 |0=>1
 |n+1=>mul p m t (pw p m t x n) x
theorem yaw(x n:Nat):pw p m t x n<p^m:=by
 cases n with
 |zero=>exact zap hp hm
 |succ n=>exact yap hp hm _ _
theorem ya1(x a:Nat):∀b,pw p m t x (a+b)=mul p m t (pw p m t x a) (pw p m t x b)
 |0=>(mul_one hp hm (yaw hp hm x a)).symm
 |b+1=>by
  show mul p m t (pw p m t x (a+b)) x=mul p m t (pw p m t x a) (mul p m t (pw p m t x b) x);rw[ya1 x a b,mul_assoc hp hm]
theorem yb2{x:Nat}(hx:x<p^m):pw p m t x 1=x:=one_mul hp hm hx
theorem yaF(x a:Nat):∀b,pw p m t x (a*b)=pw p m t (pw p m t x a) b
 |0=>rfl
 |b+1=>by
  rw[Nat.mul_succ,ya1 hp hm,yaF x a b];rfl
theorem ybO:∀n,pw p m t 1 n=1
 |0=>rfl
 |n+1=>by
  show mul p m t (pw p m t 1 n) 1=1;rw[ybO n,mul_one hp hm (zap hp hm)]
theorem yby(n:Nat):pw p m t 0 (n+1)=0:=mul_zero hp hm _
theorem yde(x y:Nat):∀n,pw p m t (mul p m t x y) n=mul p m t (pw p m t x n) (pw p m t y n)
 |0=>(mul_one hp hm (zap hp hm)).symm
 |n+1=>by
  show mul p m t (pw p m t (mul p m t x y) n) (mul p m t x y)=mul p m t (mul p m t (pw p m t x n) x) (mul p m t (pw p m t y n) y);rw[yde x y n,mul_assoc hp hm,mul_assoc hp hm,mul_left_comm hp hm (pw p m t y n) x y]
end
end Dg
end
section
namespace Dg
noncomputable def zec:List (Nat×Nat×List (Nat×Nat)):=[(2,1,[(1,0)]),(2,2,[(2,2),(3,3),(2,3),(2,0)]),(2,3,[(2,4),(3,7),(2,5),(2,0),(2,6),(2,0),(2,7),(3,5)]),(2,4,[(2,8),(3,15),(2,9),(2,0),(2,10),(7,7),(2,11),(3,13),(2,12),(2,0),(2,13),(3,9),(2,14),(3,11),(2,15),(3,0)]),(3,1,[(2,0)]),(3,2,[(3,3),(4,5),(4,0),(3,5),(3,0),(4,4),(3,4),(3,0),(5,5)]),(3,3,[(3,9),(5,13),(4,16),(3,11),(6,0),(3,0),(3,10),(4,17),(5,14),(3,15),(4,14),(3,0),(3,17),(4,0),(4,13),(3,16),(5,10),(3,0),(3,12),(5,0),(5,17),(3,14),(4,11),(3,0),(3,13),(4,0),(4,10)]),(5,1,[(2,0)]),(5,2,[(5,5),(6,9),(7,0),(6,0),(7,8),(5,9),(7,7),(6,8),(5,0),(6,0),(5,8),(6,0),(5,0),(6,7),(9,9),(5,7),(8,0),(5,0),(8,9),(6,6),(5,6),(8,8),(7,9),(5,0),(7,0)]),(7,1,[(3,0)]),(11,1,[(2,0)]),(13,1,[(2,0)]),(2,5,[(2,16),(3,31),(2,17),(7,13),(2,18),(2,0),(2,19),(3,29),(2,20),(2,0),(2,21),(3,25),(2,22),(3,27),(2,23),(2,0),(2,24),(7,11),(2,25),(3,17),(2,26),(3,19),(2,27),(2,0),(2,28),(3,23),(2,29),(2,0),(2,30),(2,0),(2,31),(3,21)]),(2,6,[(2,32),(3,63),(2,33),(2,0),(2,34),(11,11),(2,35),(3,61),(2,36),(3,0),(2,37),(3,57),(2,38),(3,59),(2,39),(7,25),(2,40),(13,13),(2,41),(3,49),(2,42),(3,51),(2,43),(3,0),(2,44),(3,55),(2,45),(2,0),(2,46),(7,31),(2,47),(3,53),(2,48),(2,0),(2,49),(3,33),(2,50),(3,35),(2,51),(2,0),(2,52),(3,39),(2,53),(7,21),(2,54),(2,0),(2,55),(3,37),(2,56),(3,47),(2,57),(2,0),(2,58),(3,0),(2,59),(3,45),(2,60),(7,19),(2,61),(3,41),(2,62),(3,43),(2,63),(11,13)]),(7,2,[(7,7),(8,13),(10,11),(8,0),(9,12),(8,0),(9,0),(7,13),(9,0),(8,12),(9,0),(7,0),(10,10),(9,11),(7,12),(9,10),(7,0),(8,11),(7,0),(8,0),(13,13),(7,11),(8,0),(7,0),(9,9),(8,10),(12,13),(8,0),(7,10),(11,0),(7,0),(12,12),(11,13),(8,9),(11,0),(7,9),(11,12),(7,0),(10,13),(7,0),(10,0),(8,8),(7,8),(10,0),(9,13),(10,0),(7,0),(11,11),(10,12)]),(61,1,[(2,0)]),(17,1,[(3,0)]),(19,1,[(2,0)]),(23,1,[(5,0)]),(29,1,[(2,0)]),(31,1,[(3,0)]),(37,1,[(2,0)]),(41,1,[(6,0)]),(43,1,[(3,0)]),(47,1,[(5,0)]),(53,1,[(2,0)]),(59,1,[(2,0)])]
def menu:List (Nat×Nat):=zec.map λc=>(c.1,c.2.1)
def zbd(p m t b:Nat):Nat->Nat->List Nat
 |_,0=>[]
 |x,n+1=>x::zbd p m t b (mul p m t x b) n
def lowB(p m t b:Nat):Bool:=((zbd p m t b 1 (p^m-1)).drop 1).contains 1
noncomputable def yga(p m t b:Nat):Bool:=(List.range b).all (λc=>c==0||lowB p m t c)&&!lowB p m t b&&decide (0<b)&&(List.range (p^m)).all (λy=>y==0||(zbd p m t b 1 (p^m-1)).contains y)&&(zbd p m t b 1 (p^m)).getLast?==some 1&&decide (b<p^m)
noncomputable def zeJ(p m t:Nat)(c:Nat×Nat):Bool:=if c.2=0 then yga p m t c.1 else decide (0<c.1/\c.1<p^m/\c.1<p^(m/2+1)/\c.2<p^m)&&mul p m t c.1 c.2==0
def yd3(p m:Nat):Nat->List (Nat×Nat)->Bool
 |_,[]=>true
 |t,c::cs=>zeJ p m t c&&yd3 p m (t+1) cs
def yiI:Bool:=zec.all λc=>yd3 c.1 c.2.1 0 c.2.2
theorem zha:yiI=true:=by decide +kernel
theorem zcL{p m t b:Nat}:∀(n k i:Nat),i<n->(zbd p m t b (pw p m t b k) n)[i]?=some (pw p m t b (k+i))
 |0,k,i,h=>absurd h (Nat.not_lt_zero _)
 |n+1,k,0,h=>rfl
 |n+1,k,i+1,h=>by
  show(zbd p m t b (pw p m t b (k+1)) n)[i]?=_;rw[zcL n (k+1) i (by lia),show k+1+i=k+(i+1) by lia]
theorem zcG{p m t b:Nat}:∀(n x:Nat),(zbd p m t b x n).length=n
 |0,x=>rfl
 |n+1,x=>by show(zbd p m t b _ n).length+1=_;rw[zcG n]
structure Prim(p m t b:Nat):Prop where
 lt:b<p^m
 round:pw p m t b (p^m-1)=1
 all:∀y,0<y->y<p^m->∃i,i<p^m-1/\pw p m t b i=y
 pos:0<b
 min:∀i,0<i->i<p^m-1->pw p m t b i≠1
 low:∀c,0<c->c<b->∃i,0<i/\i<p^m-1/\pw p m t c i=1
theorem zhc{p m t b:Nat}:lowB p m t b=true↔∃i,0<i/\i<p^m-1/\pw p m t b i=1:=by
 unfold lowB;rw[List.contains_iff_mem,List.mem_iff_getElem?];constructor
 ·rintro⟨j,h⟩;rw[List.getElem?_drop]at h;have hl:1+j<p^m-1:=by have:=(List.getElem?_eq_some_iff.mp h).1;rw[zcG]at this;exact this
  have g:=zcL (p:=p) (m:=m) (t:=t) (b:=b) (p^m-1) 0 (1+j) hl;rw[show pw p m t b 0=1 from rfl,h]at g;exact⟨1+j,by lia,hl,by simpa using (Option.some.inj g).symm⟩
 ·rintro⟨i,h0,hi,e⟩;refine⟨i-1,?_⟩;rw[List.getElem?_drop,show 1+(i-1)=i by lia];have g:=zcL (p:=p) (m:=m) (t:=t) (b:=b) (p^m-1) 0 i hi;rw[show pw p m t b 0=1 from rfl,Nat.zero_add,e]at g;exact g
theorem zdb{p m t b:Nat}(hq:0<p^m)(h:yga p m t b=true):Prim p m t b:=by
 unfold yga at h;simp only[Bool.and_eq_true]at h;obtain⟨⟨⟨⟨⟨k1,k2⟩,k3⟩,h1⟩,h2⟩,h3⟩:=h;refine⟨of_decide_eq_true h3,?_,λy hy hy2=>?_,of_decide_eq_true k3,λi hi hi2 e=>?_,λc hc hc2=>?_⟩
 ·have e:(zbd p m t b 1 (p^m)).getLast?=some 1:=by simpa using h2
  rw[List.getLast?_eq_getElem?,zcG]at e;have g:=zcL (p:=p) (m:=m) (t:=t) (b:=b) (p^m) 0 (p^m-1) (by lia);rw[show pw p m t b 0=1 from rfl]at g;rw[g]at e
  simpa using Option.some.inj e
 ·rw[List.all_eq_true]at h1;have g:=h1 y (List.mem_range.mpr hy2);rw[Bool.or_eq_true]at g;rcases g with g|g
  ·have:y=0:=by simpa using g
   lia
  ·have g:y∈zbd p m t b 1 (p^m-1):=List.contains_iff_mem.mp g;obtain⟨i,hi,e⟩:=List.mem_iff_getElem.mp g;rw[zcG]at hi;have g2:=zcL (p:=p) (m:=m) (t:=t) (b:=b) (p^m-1) 0 i hi;rw[show pw p m t b 0=1 from rfl,List.getElem?_eq_getElem (by rw[zcG];exact hi),e]at g2;exact⟨i,hi,by simpa using (Option.some.inj g2).symm⟩
 ·have:=zhc.mpr ⟨i,hi,hi2,e⟩;rw[this]at k2;cases k2
 ·have g:=List.all_eq_true.mp k1 c (List.mem_range.mpr hc2);rw[Bool.or_eq_true]at g;rcases g with g|g
  ·have:c=0:=by simpa using g
   lia
  ·exact zhc.mp g
theorem zbI{p m:Nat}:∀(cs:List (Nat×Nat)) (t i:Nat) (c:Nat×Nat),yd3 p m t cs=true->cs[i]?=some c->zeJ p m (t+i) c=true
 | [],t,i,c,_,h=>by simp at h
 |d::cs,t,0,c,h,e=>by
  have h:(zeJ p m t d&&yd3 p m (t+1) cs)=true:=h;rw[Bool.and_eq_true]at h;cases e;exact h.1
 |d::cs,t,i+1,c,h,e=>by
  have h:(zeJ p m t d&&yd3 p m (t+1) cs)=true:=h;rw[Bool.and_eq_true]at h;have g:=zbI cs (t+1) i c h.2 (by simpa using e);rw[show t+(i+1)=t+1+i by lia];exact g
theorem ygM(p t x y:Nat):mul p 1 t x y=mul p 1 0 x y:=rfl
theorem zcV(p t x:Nat):∀n,pw p 1 t x n=pw p 1 0 x n
 |0=>rfl
 |n+1=>by
  show mul p 1 t (pw p 1 t x n) x=mul p 1 0 (pw p 1 0 x n) x;rw[zcV p t x n,ygM]
structure Good(p m t:Nat):Prop where
 mem:(p,m)∈menu
 top:t<p^m
 no:m=1\/∀x y,0<x->x<p^m->x<p^(m/2+1)->0<y->y<p^m->mul p m t x y≠0
noncomputable def ygw:Bool:=zec.all λc=>decide (2<=c.1/\1<=c.2.1/\c.1^c.2.1<=64)&&(if c.2.1=1 then decide (c.2.2.length=1)&&c.2.2.all (λd=>d.2==0) else decide (c.2.2.length=c.1^c.2.1))
theorem ycF:ygw=true:=by decide +kernel
theorem ybi{p m:Nat}(h:(p,m)∈menu):2<=p/\1<=m/\p^m<=64:=by
 obtain⟨c,hc,e⟩:=List.mem_map.mp h;cases e;have g:=List.all_eq_true.mp ycF c hc;rw[Bool.and_eq_true]at g;exact of_decide_eq_true g.1
theorem Good.prim{p m t:Nat}(h:Good p m t):∃b,Prim p m t b:=by
 obtain⟨c,hc,e⟩:=List.mem_map.mp h.mem;obtain⟨p',m',cs⟩:=c;obtain⟨rfl,rfl⟩:p'=p/\m'=m:=by simpa using e
 have hs:=ybi h.mem;have hq:0<p'^m':=Nat.pow_pos (by lia);have g:=List.all_eq_true.mp ycF _ hc;have a:=List.all_eq_true.mp zha _ hc;rw[Bool.and_eq_true]at g;have g:=g.2;dsimp only at g a;by_cases h1:m'=1
 ·subst h1;rw[if_pos rfl,Bool.and_eq_true]at g;have hl:cs.length=1:=of_decide_eq_true g.1;obtain⟨c,rfl⟩:∃c,cs=[c]:=by
   cases cs with
   |nil=>simp at hl
   |cons c r=>cases r with
    |nil=>exact⟨c,rfl⟩
    |cons d r=>simp at hl
  have a1:=zbI [c] 0 0 c a rfl;have c0:c.2=0:=by simpa using List.all_eq_true.mp g.2 c (by simp)
  unfold zeJ at a1;rw[if_pos c0]at a1;have P:=zdb hq a1;refine⟨c.1,P.lt,?_,λy hy hy2=>?_,P.pos,λi h1 h2=>?_,λd h1 h2=>?_⟩
  ·rw[zcV];exact P.round
  ·obtain⟨i,hi,e⟩:=P.all y hy hy2;exact⟨i,hi,by rw[zcV];exact e⟩
  ·rw[zcV];exact P.min i h1 h2
  ·obtain⟨i,a,b,e⟩:=P.low d h1 h2;exact⟨i,a,b,by rw[zcV];exact e⟩
 ·rw[if_neg h1]at g;have hl:cs.length=p'^m':=of_decide_eq_true g;have ht:t<cs.length:=by rw[hl];exact h.top
  have a1:=zbI cs 0 t cs[t] a (List.getElem?_eq_getElem ht);rw[Nat.zero_add]at a1;unfold zeJ at a1;by_cases c0:cs[t].2=0
  ·rw[if_pos c0]at a1;exact⟨_,zdb hq a1⟩
  ·rw[if_neg c0,Bool.and_eq_true]at a1;have b:=of_decide_eq_true a1.1;rcases h.no with h2|h2
   ·exact absurd h2 h1
   ·exact absurd (by simpa using a1.2) (h2 _ _ b.1 b.2.1 b.2.2.1 (by lia) b.2.2.2)
section
variable {p m t:Nat} (G:Good p m t)
include G
theorem Good.hp:2<=p:=(ybi G.mem).1
theorem Good.hm:1<=m:=(ybi G.mem).2.1
theorem Good.hq:p^m<=64:=(ybi G.mem).2.2
theorem Good.fermat{x:Nat}(h0:0<x)(hx:x<p^m):pw p m t x (p^m-1)=1:=by
 obtain⟨b,P⟩:=G.prim;obtain⟨i,_,rfl⟩:=P.all x h0 hx;rw[<-yaF G.hp G.hm,Nat.mul_comm,yaF G.hp G.hm,P.round,ybO G.hp G.hm]
theorem Good.inv{x:Nat}(h0:0<x)(hx:x<p^m):mul p m t (pw p m t x (p^m-2)) x=1:=by
 have h2:=zap G.hp G.hm;have e:p^m-1=(p^m-2)+1:=by lia
 have f:=G.fermat h0 hx;rw[e]at f;exact f
theorem Good.noz{x y:Nat}(h0:0<x)(hx:x<p^m)(k0:0<y)(hy:y<p^m):0<mul p m t x y:=by
 rcases Nat.eq_zero_or_pos (mul p m t x y) with e|e
 ·have i:=G.inv h0 hx;have f:mul p m t (pw p m t x (p^m-2)) (mul p m t x y)=y:=by rw[<-mul_assoc G.hp G.hm,i,one_mul G.hp G.hm hy]
  rw[e,mul_zero G.hp G.hm]at f
  lia
 ·exact e
theorem Good.inj{b:Nat}(P:Prim p m t b):∀i j,i<p^m-1->j<p^m-1->pw p m t b i=pw p m t b j->i=j:=by
 have key:∀i j,i<j->j<p^m-1->pw p m t b i≠pw p m t b j:=by
  intro i j hij hj e;have hp:=G.hp;have hm:=G.hm;have h1:mul p m t (pw p m t b (p^m-1-i)) (pw p m t b i)=1:=by rw[<-ya1 hp hm,show p^m-1-i+i=p^m-1 by lia,P.round]
  have h2:mul p m t (pw p m t b (p^m-1-i)) (pw p m t b j)=pw p m t b (j-i):=by
   rw[show j=i+(j-i) by lia,ya1 hp hm,<-mul_assoc hp hm,h1,one_mul hp hm (yaw hp hm _ _),show i+(j-i)-i=j-i by lia]
  rw[<-e,h1]at h2;exact P.min (j-i) (by lia) (by lia) h2.symm
 intro i j hi hj e;rcases Nat.lt_trichotomy i j with h|h|h
 ·exact absurd e (key i j h hj)
 ·exact h
 ·exact absurd e.symm (key j i h hi)
theorem Good.pw_pos{b:Nat}(h0:0<b)(hb:b<p^m):∀n,0<pw p m t b n
 |0=>by show 0<1;lia
 |n+1=>G.noz (Good.pw_pos h0 hb n) (yaw G.hp G.hm _ _) h0 hb
theorem Good.pw_mod{x:Nat}(h0:0<x)(hx:x<p^m)(n:Nat):pw p m t x (n%(p^m-1))=pw p m t x n:=by
 have e:=Nat.div_add_mod n (p^m-1);have g:pw p m t x n=mul p m t (pw p m t x ((p^m-1)*(n/(p^m-1)))) (pw p m t x (n%(p^m-1))):=by rw[<-ya1 G.hp G.hm,e]
 rw[g,yaF G.hp G.hm,G.fermat h0 hx,ybO G.hp G.hm,one_mul G.hp G.hm (yaw G.hp G.hm _ _)]
end
end Dg
end
section
namespace Dg
def sumF(p m:Nat):Nat->(Nat->Nat)->Nat
 |0,_=>0
 |k+1,f=>add p m (sumF p m k f) (f k)
section
variable {p m t:Nat} (hp:2<=p) (hm:1<=m)
include hp hm
theorem zae:0<p^m:=Nat.pow_pos (by lia)
theorem yeW(k:Nat)(f:Nat->Nat):sumF p m k f<p^m:=by
 cases k with
 |zero=>exact zae hp hm
 |succ k=>exact ya8 hp hm _ _
theorem zaZ(f:Nat->Nat)(k:Nat):∀d,(∀i,k<=i->i<k+d->f i=0)->sumF p m (k+d) f=sumF p m k f
 |0,_=>rfl
 |d+1,h=>by
  show add p m (sumF p m (k+d) f) (f (k+d))=_;rw[h (k+d) (by lia) (by lia),add_zero hp hm (yeW hp hm _ _),zaZ f k d λi h1 h2=>h i h1 (by lia)]
theorem yaj{f g:Nat->Nat}:∀k,(∀i,i<k->f i=g i)->sumF p m k f=sumF p m k g
 |0,_=>rfl
 |k+1,h=>by
  show add p m (sumF p m k f) (f k)=add p m (sumF p m k g) (g k);rw[yaj k λi hi=>h i (by lia),h k (by lia)]
theorem zcF{f:Nat->Nat}(hf:∀i,f i<p^m):∀k,sumF p m (k+1) f=add p m (f 0) (sumF p m k λi=>f (i+1))
 |0=>by
  show add p m 0 (f 0)=add p m (f 0) 0;rw[add_comm hp hm]
 |k+1=>by
  show add p m (sumF p m (k+1) f) (f (k+1))=add p m (f 0) (add p m (sumF p m k λi=>f (i+1)) (f (k+1)));rw[zcF hf k,add_assoc hp hm]
end
def conv(p m t:Nat)(xs ys:List Nat)(n:Nat):Nat:=sumF p m (n+1) λi=>mul p m t (xs.getD i 0) (ys.getD (n-i) 0)
noncomputable def zdq(p m t:Nat)(xs ys:List Nat)(k n:Nat):Nat:=sumF p m k λi=>if i<=n then mul p m t (xs.getD i 0) (ys.getD (n-i) 0) else 0
theorem yas{xs:List Nat}{i:Nat}(h:xs.length<=i):xs.getD i 0=0:=by simp[List.getD,h]
section
variable {p m t:Nat} (hp:2<=p) (hm:1<=m)
include hp hm
theorem ycv(xs ys:List Nat)(k n:Nat):zdq p m t xs ys k n<p^m:=yeW hp hm _ _
theorem zf3(xs ys:List Nat)(n:Nat):zdq p m t xs ys xs.length n=conv p m t xs ys n:=by
 unfold zdq conv
 rcases Nat.le_total xs.length (n+1) with h|h
 ·obtain⟨d,e⟩:∃d,n+1=xs.length+d:=⟨n+1-xs.length,by lia⟩
  rw[e,zaZ hp hm _ xs.length d λi h1 h2=>by rw[yas h1,zero_mul hp hm]];exact yaj hp hm _ λi hi=>by rw[if_pos (by lia)]
 ·obtain⟨d,e⟩:∃d,xs.length=n+1+d:=⟨xs.length-(n+1),by lia⟩
  rw[e,zaZ hp hm _ (n+1) d λi h1 h2=>by rw[if_neg (by lia)]];exact yaj hp hm _ λi hi=>by rw[if_pos (by lia)]
end
end Dg
end
section
namespace Dg
def val(p m t x:Nat):List Nat->Nat
 | []=>0
 |a::r=>add p m (mul p m t (val p m t x r) x) a
section
variable {p m t:Nat} (hp:2<=p) (hm:1<=m)
include hp hm
theorem add_mul(x y z:Nat):mul p m t (add p m x y) z=add p m (mul p m t x z) (mul p m t y z):=by
 rw[mul_comm hp hm,mul_add hp hm,mul_comm hp hm z x,mul_comm hp hm z y]
theorem ybx(x:Nat)(l:List Nat):val p m t x l<p^m:=by
 cases l with
 |nil=>exact zae hp hm
 |cons a r=>exact ya8 hp hm _ _
theorem zbv(z:Nat):∀(k:Nat) (f:Nat->Nat),sumF p m k (λi=>mul p m t (f i) z)=mul p m t (sumF p m k f) z
 |0,f=>(zero_mul hp hm z).symm
 |k+1,f=>by
  show add p m (sumF p m k λi=>mul p m t (f i) z) (mul p m t (f k) z)=mul p m t (add p m (sumF p m k f) (f k)) z;rw[zbv z k f,add_mul hp hm]
theorem ycH:∀(k:Nat) (f g:Nat->Nat),sumF p m k (λi=>add p m (f i) (g i))=add p m (sumF p m k f) (sumF p m k g)
 |0,f,g=>(add_zero hp hm (zae hp hm)).symm
 |k+1,f,g=>by
  show add p m (sumF p m k λi=>add p m (f i) (g i)) (add p m (f k) (g k))=add p m (add p m (sumF p m k f) (f k)) (add p m (sumF p m k g) (g k));rw[ycH k f g,add_assoc hp hm,add_assoc hp hm];congr 1;rw[<-add_assoc hp hm,add_comm hp hm (sumF p m k g) (f k),add_assoc hp hm]
theorem yaO{x:Nat}(hx:x<p^m):∀l:List Nat,(∀a∈l,a<p^m)->val p m t x l=sumF p m l.length λk=>mul p m t (l.getD k 0) (pw p m t x k)
 | [],_=>rfl
 |a::r,h=>by
  have ih:=yaO hx r λb hb=>h b (List.mem_cons_of_mem _ hb)
  show add p m (mul p m t (val p m t x r) x) a=sumF p m (r.length+1) _;rw[zcF hp hm (λi=>yap hp hm _ _)];have e0:mul p m t ((a::r).getD 0 0) (pw p m t x 0)=a:=mul_one hp hm (h a List.mem_cons_self);have e1:sumF p m r.length (λi=>mul p m t ((a::r).getD (i+1) 0) (pw p m t x (i+1)))=mul p m t (val p m t x r) x:=by
   rw[ih,<-zbv hp hm];refine yaj hp hm _ λi hi=>?_
   show mul p m t (r.getD i 0) (mul p m t (pw p m t x i) x)=_;rw[mul_assoc hp hm]
  rw[e0,e1,add_comm hp hm]
end
end Dg
end
section
namespace Dg
def ygY(p m t:Nat):Bool:=(List.range (p^m)).all λy=>pw p m t (add p m 1 y) p==add p m 1 (pw p m t y p)
def yaz(p m:Nat):Nat->List (Nat×Nat)->Bool
 |_,[]=>true
 |t,c::cs=>(if c.2=0 then ygY p m t else true)&&yaz p m (t+1) cs
def yhp:Bool:=zec.all λc=>if c.2.1=1 then true else yaz c.1 c.2.1 0 c.2.2
theorem yfX{α:Type}{f:α->Bool}{l:List α}(k:Nat)(a:(l.take k).all f=true)(b:(l.drop k).all f=true):l.all f=true:=by rw[<-List.take_append_drop k l,List.all_append,a,b];rfl
theorem ybD{p m:Nat}:∀(k t:Nat)(cs:List (Nat×Nat)),yaz p m t (cs.take k)=true->yaz p m (t+k) (cs.drop k)=true->yaz p m t cs=true
|0,_,_,_,h=>h
|_+1,_,[],_,_=>rfl
|k+1,t,c::cs,a,b=>by
 have a:((if c.2=0 then ygY p m t else true)&&yaz p m (t+1) (cs.take k))=true:=a;rw[Bool.and_eq_true]at a;show((if c.2=0 then ygY p m t else true)&&yaz p m (t+1) cs)=true;rw[a.1,Bool.true_and];exact ybD k (t+1) cs a.2 (by rw[show t+1+k=t+(k+1) by lia];exact b)
def yfr(c:Nat×Nat×List (Nat×Nat)):Bool:=if c.2.1=1 then true else yaz c.1 c.2.1 0 c.2.2
def zgU:List (Nat×Nat):=(zec.getD 13 (0,0,[])).2.2
theorem yhY:(zec.take 13).all yfr=true:=by decide +kernel
theorem yhv:yaz 2 6 0 (zgU.take 20)=true:=by decide +kernel
theorem yhu:yaz 2 6 20 ((zgU.drop 20).take 20)=true:=by decide +kernel
theorem zhr:yaz 2 6 40 ((zgU.drop 20).drop 20)=true:=by decide +kernel
theorem yhQ:(zec.drop 14).all yfr=true:=by decide +kernel
theorem zhj:yfr (zec.getD 13 (0,0,[]))=true:=ybD 20 0 zgU yhv (ybD 20 20 _ yhu zhr)
theorem zhh:yhp=true:=yfX (f:=yfr) 13 yhY (yfX (f:=yfr) 1 ((Bool.and_true _).trans zhj) yhQ)
theorem ycl{p m:Nat}:∀(cs:List (Nat×Nat)) (t i:Nat) (c:Nat×Nat),yaz p m t cs=true->cs[i]?=some c->c.2=0->ygY p m (t+i)=true
 | [],_,_,_,_,h,_=>by cases h
 |d::cs,t,0,c,h,e,h0=>by
  cases e;unfold yaz at h;rw[Bool.and_eq_true,if_pos h0]at h;exact h.1
 |d::cs,t,i+1,c,h,e,h0=>by
  unfold yaz at h;rw[Bool.and_eq_true]at h;have:=ycl cs (t+1) i c h.2 e h0;rw[show t+(i+1)=t+1+i by lia];exact this
section
variable {p m t:Nat} (G:Good p m t)
include G
theorem Good.pw_q{x:Nat}(hx:x<p^m):pw p m t x (p^m)=x:=by
 have h1:=zap G.hp G.hm;rcases Nat.eq_zero_or_pos x with h|h
 ·rw[h,show p^m=(p^m-1)+1 by lia,yby G.hp G.hm]
 ·rw[show pw p m t x (p^m)=pw p m t x ((p^m-1)+1) by congr 1;lia,ya1 G.hp G.hm,G.fermat h hx,yb2 G.hp G.hm hx,one_mul G.hp G.hm hx]
theorem Good.frob1{y:Nat}(hy:y<p^m):pw p m t (add p m 1 y) p=add p m 1 (pw p m t y p):=by
 obtain⟨c,hc,e⟩:=List.mem_map.mp G.mem;obtain⟨p',m',cs⟩:=c;obtain⟨rfl,rfl⟩:p'=p/\m'=m:=by simpa using e
 by_cases h1:m'=1
 ·subst h1;have e1:=G.pw_q (ya8 (m:=1) G.hp G.hm 1 y);have e2:=G.pw_q hy;rw[Nat.pow_one]at e1 e2;rw[e1,e2]
 ·have g:=List.all_eq_true.mp ycF _ hc;have a:=List.all_eq_true.mp zha _ hc;have f:=List.all_eq_true.mp zhh _ hc;rw[Bool.and_eq_true]at g;have g:=g.2;dsimp only at g a f;rw[if_neg h1]at g f;have hl:cs.length=p'^m':=of_decide_eq_true g;have ht:t<cs.length:=by rw[hl];exact G.top
  have a1:=zbI cs 0 t cs[t] a (List.getElem?_eq_getElem ht);rw[Nat.zero_add]at a1;unfold zeJ at a1;by_cases c0:cs[t].2=0
  ·have f1:=ycl cs 0 t cs[t] f (List.getElem?_eq_getElem ht) c0;rw[Nat.zero_add]at f1;have:=List.all_eq_true.mp f1 y (List.mem_range.mpr hy);exact eq_of_beq this
  ·rw[if_neg c0,Bool.and_eq_true]at a1;have b:=of_decide_eq_true a1.1;rcases G.no with h2|h2
   ·exact absurd h2 h1
   ·exact absurd (by simpa using a1.2) (h2 _ _ b.1 b.2.1 b.2.2.1 (by lia) b.2.2.2)
theorem Good.frob{x y:Nat}(hx:x<p^m)(hy:y<p^m):pw p m t (add p m x y) p=add p m (pw p m t x p) (pw p m t y p):=by
 have hp:=G.hp;have hm:=G.hm;rcases Nat.eq_zero_or_pos x with h|h
 ·rw[h,zero_add hp hm hy,show p=(p-1)+1 by lia,yby (by lia) (by lia),<-show p=(p-1)+1 by lia,zero_add hp hm (yaw hp hm _ _)]
 ·have hi:=yaw hp hm (t:=t) x (p^m-2);have e1:y=mul p m t x (mul p m t (pw p m t x (p^m-2)) y):=by
   rw[<-mul_assoc hp hm,mul_comm hp hm x,G.inv h hx,one_mul hp hm hy]
  have e2:add p m x y=mul p m t x (add p m 1 (mul p m t (pw p m t x (p^m-2)) y)):=by
   rw[mul_add hp hm,mul_one hp hm hx,<-e1]
  rw[e2,yde hp hm,G.frob1 (yap hp hm _ _),mul_add hp hm,mul_one hp hm (yaw hp hm _ _),<-yde hp hm,<-e1]
theorem Good.frobN:∀(k:Nat) {x y:Nat},x<p^m->y<p^m->pw p m t (add p m x y) (p^k)=add p m (pw p m t x (p^k)) (pw p m t y (p^k))
 |0,x,y,hx,hy=>by
  rw[Nat.pow_zero,yb2 G.hp G.hm (ya8 G.hp G.hm _ _),yb2 G.hp G.hm hx,yb2 G.hp G.hm hy]
 |k+1,x,y,hx,hy=>by
  rw[Nat.pow_succ,yaF G.hp G.hm,yaF G.hp G.hm,yaF G.hp G.hm,Good.frobN k hx hy,G.frob (yaw G.hp G.hm _ _) (yaw G.hp G.hm _ _)]
end
end Dg
end
section
namespace L2
open PySem PySem.Spec PyProof.Rows
theorem ydQ{j:Int}(h0:0<=j)(h1:j<2^62):∀x:Int,-2<=x->x<=j->Builtin.Range.rangeFitsLong x=true:=λx h2 h3=>by
 unfold Builtin.Range.rangeFitsLong;rw[Bool.and_eq_true];exact⟨decide_eq_true (by lia),decide_eq_true (by lia)⟩
theorem zgj{j:Int}(h0:0<=j):Builtin.Range.rangeSize 0 j 1=j:=by
 unfold Builtin.Range.rangeSize;rw[if_pos (by decide)];split <;> lia
theorem zfj(r:Addr)(j:Int)(t u v:Tok)(h0:0<=j)(h1:j<2^62) :
  Meets (Builtin.«range.__reversed__» ⟨[.ref r],[]⟩) (λ_ R s=>s.heap.get? r=some { cls:=.type "range",dict:=none,data:=.fields #[.int 0 t,.int j u,.int 1 v],slots:=#[] }/\R (.ok (.ret (Value.ref s.heap.objs.size))) { s with heap:=s.heap.push { cls:=Value.type "range_iterator",data:=.fields #[rawInt (j-1),rawInt j,rawInt (-1)] } }) :=
 .of_wp λprog w A R s h=>by
  obtain⟨hp,g,d,tk,os⟩:=s;obtain⟨hl,h⟩:=h;have hz:=zgj h0;have f1:=ydQ h0 h1 0 (by lia) h0;have f2:=ydQ h0 h1 j (by lia) (Int.le_refl _);have f3:Builtin.Range.rangeFitsLong 1=true:=by decide
  have f4:Builtin.Range.rangeFitsLong (-1)=true:=by decide
  have f5:Builtin.Range.rangeFitsLong (0-1)=true:=by decide
  have hsm:(!(Builtin.Range.rangeFitsLong 0&&Builtin.Range.rangeFitsLong j&&Builtin.Range.rangeFitsLong 1&&Builtin.Range.rangeFitsLong (-1)&&Builtin.Range.rangeFitsLong (0-1)&&Builtin.Range.rangeFitsLong (Builtin.Range.rangeSize 0 j 1)))=false:=by
   rw[hz,f1,f2,f3,f4,f5];rfl
  have hsm2:(Builtin.Range.rangeFitsLong 0&&Builtin.Range.rangeFitsLong j&&Builtin.Range.rangeFitsLong 1&&Builtin.Range.rangeFitsLong (-1)&&Builtin.Range.rangeFitsLong (0-1)&&Builtin.Range.rangeFitsLong (Builtin.Range.rangeSize 0 j 1))=true:=by
   rw[hz,f1,f2,f3,f4,f5];rfl
  have hc0:¬ (!(Builtin.Range.rangeFitsLong 0&&Builtin.Range.rangeFitsLong j&&Builtin.Range.rangeFitsLong 1&&Builtin.Range.rangeFitsLong (-1)&&Builtin.Range.rangeFitsLong (0-1)&&Builtin.Range.rangeFitsLong (Builtin.Range.rangeSize 0 j 1)))=true:=by
   rw[hsm];decide
  wp_walk
  refine⟨_,rfl,?_⟩;rw[hsm2,if_pos rfl,hz,show(0:Int)+(j-1)*1=j-1 by lia];exact h
theorem zc8{j:Int}(h0:0<=j)(h1:j<2^62)(hr:IsRange s.heap r 0 j 1 t u v)
  (h:Q (.ref s.heap.objs.size) { s with heap:=s.heap.push { cls:=Value.type "range_iterator",data:=.fields #[rawInt (j-1),rawInt j,rawInt (-1)] } }):wpAny (model prog w) A (call (.builtin "range.__reversed__") [.ref r]) Q E s :=
 call_meets F.slot_range_reversed ⟨_,hr,rfl⟩ F.entry_range_reversed (F.args_range_reversed_1 _) (zfj r j t u v h0 h1) ⟨hr,h⟩
theorem zdC{j:Int}(h0:0<=j)(h1:j<2^62)(hr:IsRange s.heap r 0 j 1 t u v)
  (h:Q₁ (.ref s.heap.objs.size) { s with heap:=s.heap.push { cls:=Value.type "range_iterator",data:=.fields #[rawInt (j-1),rawInt j,rawInt (-1)] } }) :
  codeAny (model prog w) A (.call (.builtin "reversed.__new__") ⟨[.type "reversed",.ref r],[]⟩) (wants Q₁ E) s:=by
 have hT:s.TypeIs (.ref r) "range":=⟨_,hr,rfl⟩
 refine codeAny_of_tree ?_;show wpAny _ A.in1 (do checkBuiltinCall "reversed.__new__" ⟨[.type "reversed",.ref r],[]⟩;again (.builtin "reversed.__new__" ⟨[.type "reversed",.ref r],[]⟩)) _ _ s;refine wpAny_bind (wpAny_of_eq (F.newCall_reversed_1 _) (wpAny_pure ⟨plainId_quiet F.plain_reversed_new _,codeAny_builtin F.entry_reversed_new ?_⟩));rw[Around.under_plainId F.plain_reversed_new _];unfold Builtin.«reversed.__new__»;refine wpAny_bind (wpAny_of_eq (newClass_reversed _) ?_)
 try dsimp only
 refine wpAny_bind (wpAny_of_eq (a:=()) (by first|rfl|kernel_rfl) ?_);refine wpAny_bind (wpAny_of_eq (a:=()) (by first|rfl|kernel_rfl) ?_)
 try dsimp only
 refine wpAny_bind (wpAny_specialOf hT F.slot_range_reversed.lookup ?_)
 try dsimp only
 refine wpAny_bind (wpAny_of_eq (F.slot_range_reversed.bind _) ?_)
 try dsimp only
 first
 |rw[if_neg (show ¬ ((Value.builtin "range.__reversed__"==Value.none)=true) from Bool.false_ne_true)]
 |(show wpAny _ _ (if (Value.builtin "range.__reversed__"==Value.none)=true then _ else _) _ _ _;rw[if_neg (show ¬ ((Value.builtin "range.__reversed__"==Value.none)=true) from Bool.false_ne_true)])
 refine wpAny_bind (wpAny_rule ?_);refine wpAny_bind (m:=runValue (.call (.builtin "range.__reversed__") ⟨[.ref r],[]⟩)) (show wpAny _ _ (call (.builtin "range.__reversed__") [.ref r]) _ _ _ from zc8 h0 h1 hr ?_)
 first
 |exact wpAny_pure h
 |exact wpAny_bind (wpAny_pure (wpAny_pure h))
theorem zcp:isSubtype (.type "range_iterator") (.type "reversed")=pure false:=by rw[isSubtype_type];kernel_rfl
theorem zbS{j:Int}(h0:0<=j)(h1:j<2^62)(hr:IsRange s.heap r 0 j 1 t u v)
  (h:Q (.ref s.heap.objs.size) { s with heap:=s.heap.push { cls:=Value.type "range_iterator",data:=.fields #[rawInt (j-1),rawInt j,rawInt (-1)] } }):wpAny (model prog w) A (call (.type "reversed") [.ref r]) Q E s:=by
 refine callType_other (U:="range_iterator") (Q₁:=λobj s₁=>obj = .ref s.heap.objs.size/\s₁={ s with heap:=s.heap.push { cls:=Value.type "range_iterator",data:=.fields #[rawInt (j-1),rawInt j,rawInt (-1)] } }) (by decide +kernel) F.create_reversed ⟨_,_,F.mro_reversed⟩ F.made_reversed zcp (F.typeCall_reversed_1 _) (zdC h0 h1 hr ⟨rfl,rfl⟩) ?_;rintro obj s₁ ⟨rfl,rfl⟩;exact⟨⟨_,Heap.get?_push_size _ rfl,rfl⟩,h⟩
section
variable {X:Cx}
noncomputable def yiz(ta:TA):TI:=λσ H R=>ta σ H λvs H1=>Ex2 λ(a:Addr) (n:Nat)=>vs=[.ref a]/\H1 a=some (.rng 0 (n:Int))/\n<=1000/\R (Itd ((n:Int)-1) n) H1
theorem yhq{a:Expr}{ta:TA}{p pos:Pos}{tg:Expr}(hg:Gl X "reversed")(hm:X.mg "reversed"=none)(ha:PA X [a] ta)(hs:starEach [a] X.env=[(false,eval a X.env)]:=by rfl) :
  PI X tg (.Call (.Name "reversed" p) [a] [] pos) (yiz ta):=by
 intro pins s σ H R I h;refine Call_ (zbs I hg hm (u:=.type "reversed") ydo (PyProof.Rows.callWith_type1 (thn (ha pos pins s σ H _ I h) λus s1 ⟨vs,H1,I1,r1,q1⟩=>?_) hs rfl));obtain⟨a,n,e,h1,hn,q⟩:=q1;subst e;cases r1 with
 |cons r rr=>
  cases rr;cases r;obtain⟨t,u,v,e⟩:=I1.hok a _ h1;refine zbS (Int.natCast_nonneg n) (by lia) e ?_;have hri:IsRangeIter (s1.heap.push { cls:=Value.type "range_iterator",data:=.fields #[rawInt ((n:Int)-1),rawInt (n:Int),rawInt (-1)] }) s1.heap.objs.size ((n:Int)-1+((0:Nat):Int)*(-1)) ((n:Int)-((0:Nat):Int)) (-1):=by
   have e1:(n:Int)-1+((0:Nat):Int)*(-1)=(n:Int)-1:=by simp
   have e2:(n:Int)-((0:Nat):Int)=(n:Int):=by simp
   rw[e1,e2];exact Heap.get?_push_size _ rfl
  refine wpAny_pyIter_rangeiter hri ?_;refine⟨s1.heap.objs.size,[s1.heap.objs.size],_,_,H1,rfl,I1.kept (t':=s1.toks) λb o e=>Heap.get?_push_of_some _ e,zee _ ((n:Int)-1) n,hri,λb hb=>?_,q⟩;have e:b=s1.heap.objs.size:=by simpa using hb
  subst e;exact I1.fpOk (Nat.le_refl _) (I1.hok.fresh (Nat.le_refl _))
theorem yhW:IxR X (λx y H Q=>rIxL X.K x y H Q\/rIxT X.K x y H Q):=by
 intro value slice pins s σ H x y v u Q I rx ry h hs;rcases h with h|h
 ·exact yah value slice pins s σ H x y v u Q I rx ry h hs
 ·exact zam value slice pins s σ H x y v u Q I rx ry h hs
theorem zhY:SlR X (λx lo hi H Q=>rSlL X.K x lo hi H Q\/rSlA X.K x lo hi H Q):=SlR.or zei zgl
theorem yhw{tg l:Expr}{tl:TE}(hl:PE X l tl):PI X tg l (λσ H R=>zhZ X.K tl σ H R\/iTup X.K tl σ H R):=by
 intro pins s σ H R I h;rcases h with h|h
 ·exact zaO hl pins s σ H R I h
 ·exact yb0 hl pins s σ H R I h
end
end L2
end
section
namespace L2
open PySem PySem.Spec PyProof.Rows
end L2
end
section
namespace L2
open PySem PySem.Spec PyProof.Rows
end L2
end
section
namespace L2
open PySem PySem.Spec PyProof.Rows PySem.W
end L2
namespace L2
open PySem PySem.Spec PyProof.Rows PySem.W
end L2
namespace L2
open PySem PySem.Spec PyProof.Rows
end L2
namespace L2
open PySem PySem.Spec PyProof.Rows
end L2
namespace L2
open PySem PySem.Spec PyProof.Rows
end L2
end
section
namespace L2
open PySem PySem.Spec PyProof.Rows
end L2
namespace L2
open PySem PySem.Spec PyProof.Rows
end L2
end
section
namespace L2
open PySem PySem.Spec PyProof.Rows
end L2
namespace L2
open PySem PySem.Spec PyProof.Rows
end L2
namespace L2
open PySem PySem.Spec PyProof.Rows PySem.W
end L2
end
section
namespace L2
open PySem PySem.Spec PyProof.Rows
end L2
namespace L2
open PySem PySem.Spec PyProof.Rows
end L2
end
section
namespace L2
open PySem PySem.Spec PyProof.Rows
end L2
end
section
namespace L2
open PySem PySem.Spec PyProof.Rows
theorem yep(elt t1 i1 t2 i2:Expr)(scope:Scope)(pos:Pos)(it acc:Value)(env:Env) :
  compTurn (.ListComp elt [⟨t1,i1,[],0⟩,⟨t2,i2,[],0⟩] scope pos) 0 it acc env=(standAt i1.pos >>= λ_=>pyNext it >>= λr=>match r with
   |none=>pure (.done .next)
   |some v=>letOwnedTupleGo t1 it v >>= λ_=>assign t1 env v >>= λ_=>
    (eval i2 env >>= λx=>standAt i2.pos >>= λ_=>foldedSetIterable i2 env x >>= λx=>holding [x] (pyIter x) >>= λit2=>
     runOwn (.compStart (.ListComp elt [⟨t1,i1,[],0⟩,⟨t2,i2,[],0⟩] scope pos) 1 it2 acc env) env >>= λ_=>
     again (.compLoop (.ListComp elt [⟨t1,i1,[],0⟩,⟨t2,i2,[],0⟩] scope pos) 0 it acc env))):=by rfl
theorem yek(elt t1 i1 t2 i2:Expr)(scope:Scope)(pos:Pos)(it acc:Value)(env:Env) :
  compTurn (.ListComp elt [⟨t1,i1,[],0⟩,⟨t2,i2,[],0⟩] scope pos) 1 it acc env=(standAt i2.pos >>= λ_=>pyNext it >>= λr=>match r with
   |none=>pure (.done .next)
   |some v=>letOwnedTupleGo t2 it v >>= λ_=>assign t2 env v >>= λ_=>
    (eval elt env >>= λx=>call (.builtin "list.append") [acc,x] >>= λ_=>pure ()) >>= λ_=>
     again (.compLoop (.ListComp elt [⟨t1,i1,[],0⟩,⟨t2,i2,[],0⟩] scope pos) 1 it acc env)):=by rfl
section
variable {prog:Program} {w:World} {A:Around} {R:Result->Shared->Prop} {s:Shared}
theorem ybX{elt t1 i1 t2 i2 scope pos it acc env}
  (h0:codeAny (model prog w) A (.compLoop (.ListComp elt [⟨t1,i1,[],0⟩,⟨t2,i2,[],0⟩] scope pos) 1 it acc env) R s)
  (h:wpAny (model prog w) A (pyIter it) (λit' s'=>codeAny (model prog w) A (.compLoop (.ListComp elt [⟨t1,i1,[],0⟩,⟨t2,i2,[],0⟩] scope pos) 1 it' acc env) R s')
   (notedBy (model prog w) A env λx s'=>R (.error x) s') s) :
  codeAny (model prog w) A (.compStart (.ListComp elt [⟨t1,i1,[],0⟩,⟨t2,i2,[],0⟩] scope pos) 1 it acc env) R s:=by
 refine codeAny_of_tree ?_;show wpAny _ _ ((compStart (.ListComp elt [⟨t1,i1,[],0⟩,⟨t2,i2,[],0⟩] scope pos) 1 it acc env).onRaise (λx=>do noteFrame x env;standAt theWindowsPlace)) _ _ s;refine wpAny_notedAt ?_;unfold compStart;show wpAny _ _ (ask >>= _) _ _ s;refine wpAny_bind (wpAny_askSetting (wpAny_ite ?_));split
 ·first
   |exact wpAny_bind (wpAny_pure (wpAny_pure (And.intro rfl h0)))
   |exact wpAny_pure (And.intro rfl h0)
 ·first
   |exact wpAny_bind (wpAny_rule (wpAny_bind (wpAny_standAt (wpAny_bind (wpAny_mono h (λit' s' h'=>wpAny_pure (And.intro rfl h')) λ_ _ x=>x)))))
   |(refine wpAny_bind (wpAny_rule ?_);show wpAny _ _ (standAt i2.pos >>= _) _ _ s;exact wpAny_bind (wpAny_standAt (wpAny_bind (wpAny_mono h (λit' s' h'=>wpAny_pure (And.intro rfl h')) λ_ _ x=>x))))
theorem zeA(I:Nat->Shared->Prop)
  (turn:∀n s,I n s->wpAny (model prog w) A (pyNext it) (λr s₁=>match r with
   |none=>R (.ok .next) s₁
   |some v=>wpAny (model prog w) A (letOwnedTupleGo t2 it v) (λ_ s₁'=>wpAny (model prog w) A (assign t2 env v) (λ_ s₂=>
     wpAny (model prog w) A (eval elt env) (λx s₄=>
      wpAny (model prog w) A (call (.builtin "list.append") [acc,x]) (λ_ s₅=>∃m,m<n/\I m s₅) (λ_ _=>False) s₄) (λ_ _=>False) s₂) (λ_ _=>False) s₁') (λ_ _=>False) s₁) (λ_ _=>False) s)
  (n:Nat) (h:I n s):codeAny (model prog w) A (.compLoop (.ListComp elt [⟨t1,i1,[],0⟩,⟨t2,i2,[],0⟩] scope pos) 1 it acc env) R s:=by
 refine codeAny_loop rfl I (λn s hI=>?_) n h;show wpAny _ A ((compTurn (.ListComp elt [⟨t1,i1,[],0⟩,⟨t2,i2,[],0⟩] scope pos) 1 it acc env).onRaise (λx=>do noteFrame x env;theTreesLotGoes x)) _ _ s;refine wpAny_noted (wpAny_noRaise ?_);rw[yek];refine wpAny_bind (wpAny_standAt (wpAny_bind (wpAny_mono (turn n s hI) (λr s₁ h₁=>?_) λ_ _ h'=>h')));cases r with
 |none=>exact wpAny_pure h₁
 |some v=>
  refine wpAny_bind (wpAny_mono h₁ (λ_ s₁' h₁'=>?_) λ_ _ h'=>h');refine wpAny_bind (wpAny_mono h₁' (λ_ s₂ h₂=>?_) λ_ _ h'=>h');exact wpAny_bind (wpAny_bind (wpAny_mono h₂ (λx s₄ h₄=>wpAny_bind (wpAny_mono h₄ (λ_ s₅ h₅=>wpAny_pure (wpAny_pure ⟨rfl,h₅⟩)) λ_ _ h'=>h')) λ_ _ h'=>h'))
theorem zez(I:Nat->Shared->Prop)
  (turn:∀n s,I n s->wpAny (model prog w) A (pyNext it) (λr s₁=>match r with
   |none=>R (.ok .next) s₁
   |some v=>wpAny (model prog w) A (letOwnedTupleGo t1 it v) (λ_ s₁'=>wpAny (model prog w) A (assign t1 env v) (λ_ s₂=>
     wpAny (model prog w) A (eval i2 env) (λx s₃=>wpAny (model prog w) A (pyIter x) (λit2 s₄=>
      codeAny (model prog w) A (.compStart (.ListComp elt [⟨t1,i1,[],0⟩,⟨t2,i2,[],0⟩] scope pos) 1 it2 acc env) (λr s₅=>r = .ok .next/\∃m,m<n/\I m s₅) s₄) (λ_ _=>False) s₃) (λ_ _=>False) s₂) (λ_ _=>False) s₁') (λ_ _=>False) s₁) (λ_ _=>False) s)
  (n:Nat) (h:I n s) (hs:∀x,foldedSetIterable i2 env x=pure x):codeAny (model prog w) A (.compLoop (.ListComp elt [⟨t1,i1,[],0⟩,⟨t2,i2,[],0⟩] scope pos) 0 it acc env) R s:=by
 refine codeAny_loop rfl I (λn s hI=>?_) n h;show wpAny _ A ((compTurn (.ListComp elt [⟨t1,i1,[],0⟩,⟨t2,i2,[],0⟩] scope pos) 0 it acc env).onRaise (λx=>do noteFrame x env;theTreesLotGoes x)) _ _ s;refine wpAny_noted (wpAny_noRaise ?_);rw[yep];refine wpAny_bind (wpAny_standAt (wpAny_bind (wpAny_mono (turn n s hI) (λr s₁ h₁=>?_) λ_ _ h'=>h')));cases r with
 |none=>exact wpAny_pure h₁
 |some v=>
  refine wpAny_bind (wpAny_mono h₁ (λ_ s₁' h₁'=>?_) λ_ _ h'=>h');refine wpAny_bind (wpAny_mono h₁' (λ_ s₂ h₂=>?_) λ_ _ h'=>h');refine wpAny_bind (wpAny_mono h₂ (λx s₃ h₃=>?_) λ_ _ h'=>h');refine wpAny_bind (wpAny_standAt (wpAny_bind (wpAny_of_eq (hs x) (wpAny_bind (wpAny_holding (wpAny_mono h₃ (λit2 s₄ h₄=>?_) λ_ _ h'=>h'))))));refine wpAny_bind (wpAny_runOwn (codeAny_mono h₄ λr s₅ h₅=>?_));obtain⟨rfl,h₅⟩:=h₅;exact wpAny_pure ⟨rfl,h₅⟩
end
noncomputable def tIn(wi2:TI)(g2:TG)(te:TE)(acc:List V)(N:List V->Hp->Prop):St->Hp->Prop:=λσ H=>wi2 σ H λJ H1=>∃W:Nat->Nat->St->List V->Hp->Prop,(∃m,W 0 m σ acc H1)/\∀i m σ acc H,W i m σ acc H->
 (J.stop i H/\N acc H)\/
 (J.go i H/\acc.length<sizeLine/\∃N2:St->List V->Hp->Prop,(∀σ' acc' H',N2 σ' acc' H'->∃m',m'<m/\W (i+1) m' σ' acc' H')/\∀x H',J.yld i H x H'->g2 x σ H' λσ2 H2=>te σ2 H2 λv H3=>N2 σ2 (acc++[v]) H3)
noncomputable def yg8(wi:TI)(k:Nat)(ci:List Nat)(g:TG)(wi2:TI)(g2:TG)(te:TE):TE:=λσ H Q=>wi σ H λJ H1=>∃W:ygC,(∃m,W 0 m [] H1)/\∀i m acc H,W i m acc H->
 (J.stop i H/\∀D,H D=none->Q (.ref D) (upd H D (.lst acc)))\/
 (J.go i H/\∃N:List V->Hp->Prop,(∀acc' H',N acc' H'->∃m',m'<m/\W (i+1) m' acc' H')/\∀x H',J.yld i H x H'->g x (capσ k ci σ) H' λσ2 H2=>tIn wi2 g2 te acc N σ2 H2)
section
variable {X:Cx}
theorem zin{k:Nat}{N:List V->Hp->Prop}
  (hxe:X.xe=λ_ _=>False) (hcalm:X.calm=true) (hi:PI X t2 i2 wi2) (hg:PG X t2 g2) (he:PE X elt te)
  (hDC:D≠X.env.locals) (hDfs:D∉X.fs) (hDcell:∀x c,X.env.cells.lookup x=some c->c≠D) (hDge:X.s₀.heap.objs.size<=D) (hDp:∀p∈X.pn++pins,p.1≠D)
  (I:Inv X pins σ H s) (fD:H D=none) (eD:s.heap.get? D=some { cls:=.type "list",data:=.seq us.toArray k }) (rv:Vals vs us) (z:vs.length<=sizeLine) (h:tIn wi2 g2 te vs N σ H) :
  wpAny (model X.prog X.w) X.A (eval i2 X.env) (λv s1=>wpAny (model X.prog X.w) X.A (pyIter v) (λitv s2=>
   codeAny (model X.prog X.w) X.A (.compStart (.ListComp elt [⟨t1,i1,[],0⟩,⟨t2,i2,[],0⟩] scope pos) 1 itv (.ref D) X.env)
    (λr s'=>r = .ok .next/\Ex5 λσ' vs' us' k' H'=>Inv X pins σ' H' s'/\H' D=none/\s'.heap.get? D=some { cls:=.type "list",data:=.seq us'.toArray k' }/\Vals vs' us'/\vs'.length<=sizeLine/\N vs' H') s2) (λ_ _=>False) s1) (λ_ _=>False) s:=by
 let pD:List Value->Nat->List (Addr×Obj):=λus k=>[(D,{ cls:=.type "list",data:=.seq us.toArray k })]
 have memD:∀ {us k},(D,({ cls:=.type "list",data:=.seq us.toArray k }:Obj))∈X.pn++(pins++pD us k):=λ{us k}=>List.mem_append_right _ (List.mem_append_right _ List.mem_cons_self)
 have pinD:∀ {σ':St} {H':Hp} {s':Shared} {us:List Value} {k:Nat},Inv X pins σ' H' s'->H' D=none->s'.heap.get? D=some { cls:=.type "list",data:=.seq us.toArray k }->Inv X (pins++pD us k) σ' H' s':=λ{σ' H' s' us k} J f e=>
  J.pins_of λp hp=>(List.mem_append.mp hp).elim (λz=>J.pin p (List.mem_append_right _ z)) λz=>by
   have:p=(D,{ cls:=.type "list",data:=.seq us.toArray k }):=by simpa[pD]using z
   subst this;exact⟨e,f,hDC,hDfs,λv z=>by cases z⟩
 have hi2:=hi (pins++pD us k) s σ H _ (pinD I fD eD) h;rw[hxe]at hi2;refine thn hi2 λv s1 h1=>thn h1 λitv s2 h2=>?_
 obtain⟨it,fp,tn,J,H2,e,I2,T,st2,f2,W,⟨m0,w0⟩,turn⟩:=h2;subst e;have hDfp:∀b∈fp,b≠D:=λb hb zz=>(f2 b hb).2.2.2.2.2 _ memD zz.symm
 have stat:∀ {H':Hp} {us:List Value} {k:Nat},(∀b∈fp,H' b=none)->∀b∈fp,FpOk X (pins++pD us k) H' b:=λ{H' us k} hn b hb=>by
  obtain⟨_,a2,a3,a4,a5,a6⟩:=f2 b hb;refine⟨hn b hb,a2,a3,a4,a5,λp hp=>?_⟩;rcases List.mem_append.mp hp with zz|zz
  ·exact a6 p (List.mem_append_left _ zz)
  ·rcases List.mem_append.mp zz with zz|zz
   ·exact a6 p (List.mem_append_right _ (List.mem_append_left _ zz))
   ·have:p=(D,{ cls:=.type "list",data:=.seq us.toArray k }):=by simpa[pD]using zz
    subst this
    exactλq=>hDfp b hb q.symm
 have loop:codeAny (model X.prog X.w) X.A (.compLoop (.ListComp elt [⟨t1,i1,[],0⟩,⟨t2,i2,[],0⟩] scope pos) 1 (.ref it) (.ref D) X.env)
   (λr s'=>r = .ok .next/\Ex5 λσ' vs' us' k' H'=>Inv X pins σ' H' s'/\H' D=none/\s'.heap.get? D=some { cls:=.type "list",data:=.seq us'.toArray k' }/\Vals vs' us'/\vs'.length<=sizeLine/\N vs' H') s2:=by
  refine zeA (λn s'=>Ex6 λi σ' vs us k H'=>Inv X pins σ' H' s'/\tn i s'.heap/\(∀b∈fp,H' b=none)/\H' D=none/\s'.heap.get? D=some { cls:=.type "list",data:=.seq us.toArray k }/\Vals vs us/\vs.length<=sizeLine/\W i n σ' vs H') ?_ m0
   ⟨0,σ,vs,us,k,H2,I2.unpinned,st2,λb hb=>(f2 b hb).1,(I2.pin _ memD).2.1,(I2.pin _ memD).1,rv,z,w0⟩
  rintro n s3 ⟨i,σ3,vs3,us3,k3,H3,I3,st3,fr3,fD3,e3,rv3,z3,w3⟩;rcases turn i n σ3 vs3 H3 w3 with⟨stop,qn⟩ |⟨go,zl,N2,hN,step⟩
  ·refine thn (T.done X rfl rfl rfl hcalm i (pins++pD us3 k3) s3 σ3 H3 _ (pinD I3 fD3 e3) (stat fr3) st3 stop) λr s4 hq=>?_
   obtain⟨hr,I4⟩:=hq;subst hr;exact⟨rfl,σ3,vs3,us3,k3,H3,I4.unpinned,fD3,(I4.pin _ memD).1,rv3,z3,qn⟩
  ·refine thn (T.item X rfl rfl rfl hcalm i (pins++pD us3 k3) s3 σ3 H3 _ (pinD I3 fD3 e3) (stat fr3) st3 go) λr s4 hq=>?_
   obtain⟨u,hr,h4⟩:=hq;subst hr;refine thn h4 λ_ s5 hq=>?_
   obtain⟨x,H5,I5,r5,y5,st5,fr5⟩:=hq;have I5':=I5.pinned (stat fr5) (T.obj _ _ st5);have hgg:=hg _ s5 σ3 H5 x u _ I5' r5 (step x H5 y5);rw[hxe]at hgg;refine thn hgg λ_ s6 hq=>?_
   obtain⟨σ6,H6,I6,q6⟩:=hq;have hee:=he _ s6 σ6 H6 _ I6 q6;rw[hxe]at hee;refine thn hee λy s8 hq=>?_
   obtain⟨yv,H8,I8,r8,q8⟩:=hq;obtain⟨m',hm,w8⟩:=hN _ _ _ q8;have e8:=I8.unpinned.pin _ memD;have pb:∀b∈fp,∀o,s5.heap.get? b=some o->s8.heap.get? b=some o/\H8 b=none:=λb hb o e=>by
    have:=I8.pin (b,o) (List.mem_append_right _ (List.mem_append_right _ (yaZ hb e)));exact⟨this.1,this.2.1⟩
   refine call_meets F.slot_list_append ⟨_,e8.1,rfl⟩ F.entry_list_append (F.args_list_append_2 _ _) (PySem.list_append D us3.toArray k3 y (by rw[List.size_toArray,<-rv3.length];exact z3)) ⟨e8.1,?_⟩;have q:=PySem.IsL.update e8.1 (·.push y);have J0:Inv X pins σ6 H8 s8:=I8.unpinned.unpinned;refine⟨m',hm,i+1,σ6,vs3++[yv],us3++[y],_,H8,J0.turned (it:=D) (t':=s8.toks) (λb o hb hu=>(Heap.get?_update_other s8.heap _ (Ne.symm hb)).trans hu) e8.2.1 hDC (.inr hDge) hDcell hDp,?_,?_,e8.2.1,by simpa using q,rv3.append (.cons r8 .nil),by simp;lia,w8⟩
   ·exact T.keep _ _ _ st5 λb hb o e=>(Heap.get?_update_other s8.heap _ (λzz=>hDfp b hb zz.symm)).trans (pb b hb o e).1
   ·intro b hb;obtain⟨o,e,_⟩:=T.obj _ _ st5 b hb;exact(pb b hb o e).2
 exact ybX loop (T.self X.A 0 _ _ _ st2 loop)
theorem zgh{ci:List Nat} {cl:List (Str×Addr)}
  (S:CSc X.N X.env.scope tg cp ci scope) (hcalm:X.calm=true) (hi:PI X target iter wi)
  (hcl1:∀n c,cl.lookup n=some c->X.env.cells.lookup n=some c) (hcl2:∀n,(n,NameKind.free)∈scope.names->∃c,cl.lookup n=some c)
  (hg:∀C fp s H,PG (cxC X (tg++cp) scope cl C fp s H) target g) (hi2:∀C fp s H,PI (cxC X (tg++cp) scope cl C fp s H) t2 i2 wi2) (hg2:∀C fp s H,PG (cxC X (tg++cp) scope cl C fp s H) t2 g2) (he:∀C fp s H,PE (cxC X (tg++cp) scope cl C fp s H) elt te)
  (hs2:∀env x,foldedSetIterable i2 env x=pure x) (I:Inv X pins σ H s) (h:yg8 wi tg.length ci g wi2 g2 te σ H Q) :
  wpAny (model X.prog X.w) X.A (eval iter X.env) (λx s₁=>wpAny (model X.prog X.w) X.A (pyIter x) (λit s₂=>wpAny (model X.prog X.w) X.A (newList []) (λacc s₃=>
   wpAny (model X.prog X.w) X.A (newFunctionEnv scope X.env.globals cl [] X.env.qual none .none (some X.env)) (λcenv s₄=>
    codeAny (model X.prog X.w) X.A (.compStart (.ListComp elt [⟨target,iter,[],0⟩,⟨t2,i2,[],0⟩] scope pos) 0 it acc { cenv with scope:=relabel scope X.env })
     (λr s'=>Ex3 λD vs H'=>acc = .ref D/\r = .ok .next/\Inv X pins σ (upd H' D (.lst vs)) s'/\H' D=none/\Gone X pins (upd H' D (.lst vs)) s' cenv.locals/\∀D',H' D'=none->Q (.ref D') (upd H' D' (.lst vs))) s₄) X.xe s₃) X.xe s₂) X.xe s₁) X.xe s:=by
 refine thn (hi pins s σ H _ I h) λv s1 h1=>thn h1 λitv s2 h2=>?_
 obtain⟨it,fp,tn,J,H2,e,I2,T,st2,f2,W,⟨m0,w0⟩,turn⟩:=h2;subst e;refine wpAny_newObj_type (wpAny_newFunctionEnv S.nocell (by intro y hy;simp at hy) (λh₁ hns₁ hsb₁=>?_) S.kind);dsimp only at hns₁ hsb₁ ⊢;generalize hHL:s2.heap.push { cls:=.type "list",dict:=none,data:=.seq ([]:List Value).toArray }=HL at hns₁ hsb₁ ⊢;have hC:HL.objs.size=s2.heap.objs.size+1:=by rw[<-hHL,Heap.size_push]
 generalize hD:s2.heap.objs.size=D at hC ⊢;generalize hCC:HL.objs.size=C at hns₁ hsb₁ hC ⊢;have hDC:D≠C:=by lia
 have old:∀b o,s2.heap.get? b=some o->h₁.get? b=some o:=λb o e=>by
  have lt:s2.heap.objs.size>=Nat.succ b:=Heap.lt_size e;refine hsb₁.extBut b o (show @Ne Nat b C by lia) (Heap.get?_push_of_some _ (hHL ▸ Heap.get?_push_of_some _ e))
 have hD1:h₁.get? D=some { cls:=.type "list",data:=.seq ([]:List Value).toArray 0 }:=by
  refine hsb₁.extBut D _ hDC (Heap.get?_push_of_some _ ?_);rw[<-hHL,<-hD];exact Heap.get?_push_size _ rfl
 have fD:H2 D=none:=I2.hok.fresh (by lia);have fC:H2 C=none:=I2.hok.fresh (by lia)
 let X':Cx:=cxC X (tg++cp) scope cl C fp s2 H2
 have ok':X'.Ok:=by
  refine⟨I2.ok.mod,?_,I2.ok.glob,I2.ok.blt,?_,?_,?_,?_,I2.ok.hd,I2.ok.frames,.inl rfl,?_,I2.bs,Nat.le_trans I2.ok.bsz I2.sz,?_,?_,I2.stack,I2.stkFree⟩
  ·exact S.kind
  ·show s2.heap.objs.size<=C;lia
  ·intro x y c hx hy;exact I2.ok.inj x y c (hcl1 x c hx) (hcl1 y c hy)
  ·intro x hx;have hx':(relabel scope X.env).names.lookup x=some .cell\/(relabel scope X.env).names.lookup x=some .free:=hx;have q:scope.names.lookup x=some .free\/scope.names.lookup x=some .cell:=by
    rcases hx' with z|z
    ·exact zaH z (.inl rfl)
    ·exact zaH z (.inr rfl)
   rcases q with q|q
   ·exact hcl2 x (yaJ q)
   ·exact absurd rfl (S.nocell _ (yaJ q))
  ·intro x c hx;cases hx
  ·intro b hb;obtain⟨o,eo,_⟩:=T.obj _ _ st2 b hb;have lt:s2.heap.objs.size>=Nat.succ b:=Heap.lt_size eo;exact⟨by show @Ne Nat b C;lia,λx c hx=>(f2 b hb).2.2.2.2.1 x c (hcl1 x c hx)⟩
  ·intro b o e hb;rcases(f2 b hb).2.2.2.1 with z|z
   ·exact I2.ok.noex b o e z
   ·have l1:X.base.objs.size>=Nat.succ b:=Heap.lt_size e;have l2:X.base.objs.size<=X.s₀.heap.objs.size:=I2.ok.bsz;have l3:X.s₀.heap.objs.size<=(b:Nat):=z
    lia
  ·intro b hb hbs;rcases List.mem_cons.mp (I2.stkSub b hbs) with z|z
   ·exact(f2 b hb).2.1 z
   ·exact(f2 b hb).2.2.1 z
 have capLen:(capσ tg.length ci σ).length=X'.N.length:=by
  show(List.replicate tg.length none++ci.map λi=>(σ[i]?).join).length=(tg++cp).length;have:=congrArg List.length S.at_;simp only[List.length_map]at this;simp[this]
 have capLook:∀(h':Heap) (m':Str->Option Value),(∀x c o,X.env.cells.lookup x=some c->s2.heap.get? c=some o->∃sl,h'.get? c=some { o with slots:=sl })->
   ∀(i:Nat) (x:Str) (v:V),X'.N[i]?=some x->(capσ tg.length ci σ)[i]?=some (some v)->Vis X'.env.scope x->∃u,RelV v u/\Look X'.env h' m' x u:=by
  intro h' m' hcell i x v e1 e2 e3;have e1':(tg++cp)[i]?=some x:=e1;have e2':(List.replicate tg.length none++ci.map λi=>(σ[i]?).join)[i]?=some (some v):=e2;by_cases hi':i<tg.length
  ·rw[List.getElem?_append_left (by simpa using hi'),List.getElem?_replicate]at e2';split at e2' <;> cases e2'
  ·rw[List.getElem?_append_right (by simpa using hi'),List.length_replicate,List.getElem?_map]at e2';rw[List.getElem?_append_right (by lia)]at e1';cases hj:ci[i-tg.length]? with
   |none=>rw[hj]at e2';cases e2'
   |some j=>
    rw[hj]at e2';have e2'':(σ[j]?).join=some v:=Option.some.inj e2';have e4:σ[j]?=some (some v):=by
     cases q:σ[j]? with
     |none=>rw[q]at e2'';cases e2''
     |some z=>rw[q]at e2'';exact congrArg some e2''
    have e5:X.N[j]?=some x:=by
     have:=congrArg (·[i-tg.length]?) S.at_;simp only[List.getElem?_map,hj,e1',Option.map_some]at this;exact Option.some.inj this
    have hx:scope.names.lookup x=some .free:=S.cap x (List.mem_of_getElem? e1');have hk:=S.free (x,.free) (yaJ hx) rfl;obtain⟨m,hn,hl⟩:=I2.loc;obtain⟨u,r,l⟩:=hl j x v e5 e4 (.inr hk);refine⟨u,r,.inr ⟨?_,?_⟩⟩
    ·exact zbx hx
    ·rcases l with⟨k1,_⟩ |⟨_,c,k2,k3⟩
     ·have k1':X.env.scope.names.lookup x=some .local:=k1;rcases hk with z|z <;> (rw[z]at k1';cases k1')
     ·obtain⟨c',hc'⟩:=hcl2 x (yaJ hx);have:=hcl1 x c' hc';rw[k2]at this;cases this;obtain⟨o,ho,hd⟩:=k3;obtain⟨sl,q⟩:=hcell x c o k2 ho;exact⟨c,hc',_,q,hd⟩
 have I':∀tk,Inv X' [] (capσ tg.length ci σ) H2 { s2 with heap:=h₁,toks:=tk }:=λtk=>by
  refine⟨ok',rfl,I2.bare,Un.kept old,⟨_,hns₁,capLook _ _ λx c o _ e=>⟨o.slots,old c o e⟩⟩,λx c hx=>?_,fC,λx c hx=>I2.freeC x c (hcl1 x c hx),λp hp=>absurd (show p∈([]:List (Addr×Obj)) from hp) (by simp),I2.hok.kept old,?_⟩
  ·obtain⟨v,o,ho,hd⟩:=I2.cell x c (hcl1 x c hx);exact⟨v,o,old c o ho,hd⟩
  ·exact capLen
 have recap:∀ {pl pl':List (Addr×Obj)} {σ':St} {H':Hp} {s':Shared},Inv X' (pl++pl') σ' H' s'->Inv X' pl (capσ tg.length ci σ) H' s':=λ{pl pl' σ' H' s'} J=>by
  obtain⟨m,hn,_⟩:=J.loc;have u:Un (frs X.stack) fp H2 H' s2.heap s'.heap:=J.base;exact⟨J.ok,J.os,J.bare,J.base,⟨m,hn,capLook _ _ λx c o hx e=>u.any e (I2.freeC x c hx) λhb=>(f2 c hb).2.2.2.2.1 x c hx rfl⟩,J.cell,J.free,J.freeC,
   λp hp=>(List.mem_append.mp hp).elim (λz=>J.pin p (List.mem_append_left _ z)) (λz=>J.pin p (List.mem_append_right _ (List.mem_append_left _ z))),J.hok,capLen⟩
 have stat:∀ {H':Hp},(∀b∈fp,H' b=none)->∀b∈fp,FpOk X' [] H' b:=λhn b hb=>by
  obtain⟨o,eo,_⟩:=T.obj _ _ st2 b hb;have lt:s2.heap.objs.size>=Nat.succ b:=Heap.lt_size eo;exact⟨hn b hb,by show @Ne Nat b C;lia,ok'.exfs b hb,.inl hb,(ok'.exf b hb).2,λp hp=>absurd (show p∈([]:List (Addr×Obj)) from hp) (by simp)⟩
 have hDfp:D∉fp:=λhb=>by obtain⟨o,eo,_⟩:=T.obj _ _ st2 D hb;have lt:s2.heap.objs.size>=Nat.succ D:=Heap.lt_size eo;lia
 have hDcell:∀x c,X'.env.cells.lookup x=some c->c≠D:=λx c hx=>by
  obtain⟨v,o,ho,hd⟩:=I2.cell x c (hcl1 x c hx);have lt:s2.heap.objs.size>=Nat.succ c:=Heap.lt_size ho;intro z;have z':@Eq Nat c D:=z;lia
 have hDfs:D∉X'.fs:=λhb=>by
  have:D∈X.env.locals::X.fs:=I2.stkSub D hb;rcases List.mem_cons.mp this with z|z
  ·have l1:s2.heap.objs.size>=Nat.succ X.env.locals:=I2.lt;have z':@Eq Nat D X.env.locals:=z
   lia
  ·exact I2.nofs (show s2.heap.objs.size<=D by lia) z
 have fin:∀ {pl:List (Addr×Obj)} {σ':St} {H':Hp} {s':Shared} {vs:List V} {us:List Value} {k:Nat},Inv X' pl σ' H' s'->H' D=none->s'.heap.get? D=some { cls:=.type "list",data:=.seq us.toArray k }->Vals vs us->vs.length<=sizeLine->
   (∀D',H' D'=none->Q (.ref D') (upd H' D' (.lst vs)))->
   Ex3 λD' vs H'=>Value.ref D = .ref D'/\(Except.ok Flow.next:Result) = .ok .next/\Inv X pins σ (upd H' D' (.lst vs)) s'/\H' D'=none/\Gone X pins (upd H' D' (.lst vs)) s' C/\∀D',H' D'=none->Q (.ref D') (upd H' D' (.lst vs)):=by
  intro pl σ' H' s' vs us k J f e r z q;have u:Un (frs X.stack) fp H2 H' s2.heap s'.heap:=J.base;have lt:∀ {b:Addr} {o:Obj},s2.heap.get? b=some o->b≠D:=λ{b o} eb zb=>by
   have l1:s2.heap.objs.size>=Nat.succ b:=Heap.lt_size eb;have l2:@Eq Nat b D:=zb
   lia
  have u2:Un (frs X.stack) fp H2 (upd H' D (.lst vs)) s2.heap s'.heap :=
   ⟨u.keep,u.slot,λb o eb n hx=>by rw[zad (lt eb)];exact u.free b o eb n hx,u.there,
    λb xs eb=>by rw[zad (yac eb fD)];exact u.tups b xs eb,λb o uu eb=>by rw[zad (yac eb fD)];exact u.frzs b o uu eb,λb ps eb=>by rw[zad (yac eb fD)];exact u.tbls b ps eb⟩
  have hok2:HOk X.prog X.w (upd H' D (.lst vs)) s'.heap:=λb o eb=>by
   by_cases hb:b=D
   ·subst hb;rw[zaa]at eb;cases eb;exact⟨z,us,k,r,e⟩
   ·rw[zad hb]at eb;refine(J.hok b o eb).stay (λ_ _ _ q=>q) (λc hc=>?_) λc xs hc=>?_
    ·rw[zad (λzz=>by rw[zz,f]at hc;cases hc)];exact hc
    ·rw[zad (λzz=>by rw[zz,f]at hc;cases hc)];exact hc
  refine⟨D,vs,H',rfl,rfl,I2.call' (ch:=fp) J.os u2 hok2 J.bare ?_,f,⟨?_,?_,?_,?_,?_,?_,?_⟩,q⟩
  ·intro b hb;obtain⟨_,a2,_,a4,a5,a6⟩:=f2 b hb;exact⟨a4,a2,a5,a6⟩
  ·obtain⟨m,hn,_⟩:=J.loc;exact⟨m,hn⟩
  ·rw[zad (Ne.symm hDC)];exact J.free
  ·have l1:s2.heap.objs.size>=Nat.succ X.env.locals:=I2.lt;intro zz;have zz':@Eq Nat C X.env.locals:=zz;lia
  ·have l1:X.s₀.heap.objs.size<=s2.heap.objs.size:=I2.sz;show X.s₀.heap.objs.size<=C;lia
  ·intro x c hx zz;obtain⟨v,o,ho,hd⟩:=I2.cell x c hx;have l1:s2.heap.objs.size>=Nat.succ c:=Heap.lt_size ho;have zz':@Eq Nat c C:=zz
   lia
  ·intro p hp zz;have l1:s2.heap.objs.size>=Nat.succ p.1:=Heap.lt_size (I2.pin p hp).1;have zz':@Eq Nat p.1 C:=zz
   lia
  ·exact I2.nofs (show s2.heap.objs.size<=C by lia)
 have loop:∀tk,codeAny (model X.prog X.w) X.A (.compLoop (.ListComp elt [⟨target,iter,[],0⟩,⟨t2,i2,[],0⟩] scope pos) 0 (.ref it) (.ref D) (compEnvC scope cl C X.env))
   (λr s'=>Ex3 λD' vs H'=>Value.ref D = .ref D'/\r = .ok .next/\Inv X pins σ (upd H' D' (.lst vs)) s'/\H' D'=none/\Gone X pins (upd H' D' (.lst vs)) s' C/\∀D',H' D'=none->Q (.ref D') (upd H' D' (.lst vs))) { s2 with heap:=h₁,toks:=tk }:=by
  intro tk;refine zez (λn s'=>Ex5 λi vs us k H'=>Inv X' [] (capσ tg.length ci σ) H' s'/\tn i s'.heap/\(∀b∈fp,H' b=none)/\H' D=none/\s'.heap.get? D=some { cls:=.type "list",data:=.seq us.toArray k }/\Vals vs us/\vs.length<=sizeLine/\W i n vs H') ?_ m0
   ⟨0,[],[],0,H2,I' tk,T.keep _ _ _ st2 (λb hb o e=>old b o e),λb hb=>(f2 b hb).1,fD,hD1,.nil,Nat.zero_le _,w0⟩ (hs2 _)
  rintro n s3 ⟨i,vs,us,k,H3,I3,st3,fr3,fD3,hD3,rv3,z3,w3⟩
  let pD:List (Addr×Obj):=[(D,{ cls:=.type "list",data:=.seq us.toArray k })]
  have pinD:∀ {σ':St} {H':Hp} {s':Shared},Inv X' [] σ' H' s'->H' D=none->s'.heap.get? D=some { cls:=.type "list",data:=.seq us.toArray k }->Inv X' pD σ' H' s':=λ{σ' H' s'} J f e=>
   J.pins_of λp hp=>by
    have:p=(D,{ cls:=.type "list",data:=.seq us.toArray k }):=by simpa[pD]using hp
    subst this;exact⟨e,f,hDC,hDfs,λv z=>by cases z⟩
  have statD:∀ {H':Hp},(∀b∈fp,H' b=none)->∀b∈fp,FpOk X' pD H' b:=λhn b hb=>by
   obtain⟨a1,a2,a3,a4,a5,_⟩:=stat hn b hb;refine⟨a1,a2,a3,a4,a5,λp hp=>?_⟩;have:p=(D,{ cls:=.type "list",data:=.seq us.toArray k }):=by
    have hp':p∈([]:List (Addr×Obj))++pD:=hp
    simpa[pD]using hp'
   subst this
   exactλz=>hDfp (by rw[show D=b from z];exact hb)
  rcases turn i n vs H3 w3 with⟨stop,qn⟩ |⟨go,N,hN,step⟩
  ·refine thn (T.done X' rfl rfl rfl hcalm i pD s3 _ H3 _ (pinD I3 fD3 hD3) (statD fr3) st3 stop) λr s4 hq=>?_
   obtain⟨hr,I4⟩:=hq;subst hr;have eD:s4.heap.get? D=some { cls:=.type "list",data:=.seq us.toArray k }:=(I4.pin (D,_) (by simp[pD])).1;exact fin I4 fD3 eD rv3 z3 qn
  ·refine thn (T.item X' rfl rfl rfl hcalm i pD s3 _ H3 _ (pinD I3 fD3 hD3) (statD fr3) st3 go) λr s4 hq=>?_
   obtain⟨u,hr,h4⟩:=hq;subst hr;refine thn h4 λ_ s5 hq=>?_
   obtain⟨x,H5,I5,r5,y5,st5,fr5⟩:=hq;have I5':=I5.pinned (statD fr5) (T.obj _ _ st5);refine thn (hg C fp s2 H2 _ s5 _ H5 x u _ I5' r5 (step x H5 y5)) λ_ s6 hq=>?_
   obtain⟨σ6,H6,I6,q6⟩:=hq;have e6:=I6.pin (D,_) (List.mem_append_right _ (List.mem_append_left _ (by simp[pD] <;> rfl)));have I6':Inv X' (ycn fp s5.heap) σ6 H6 s6:=I6.pins_of λp hp=>I6.pin p (List.mem_append_right _ (List.mem_append_right _ hp))
   refine thn (zin (X:=X') rfl hcalm (hi2 C fp s2 H2) (hg2 C fp s2 H2) (he C fp s2 H2) hDC hDfs hDcell (show s2.heap.objs.size<=D by lia) (λp hp=>?_) I6' e6.2.1 e6.1 rv3 z3 q6) λv s7 h7=>thn h7 λitv s8 h8=>codeAny_mono h8 λr s9 ⟨hr,σ',vs',us',k',H',J,f',e',rv',z',n'⟩=>?_
   ·have hp':p∈([]:List (Addr×Obj))++ycn fp s5.heap:=hp;obtain⟨hb,_⟩:=ydV (by simpa using hp')
    exactλzz=>hDfp (by rw[<-zz];exact hb)
   obtain⟨m',hm,w'⟩:=hN _ _ n';have pb:∀b∈fp,∀o,s5.heap.get? b=some o->s9.heap.get? b=some o/\H' b=none:=λb hb o e=>by
    have:=J.pin (b,o) (List.mem_append_right _ (yaZ hb e));exact⟨this.1,this.2.1⟩
   refine⟨hr,m',hm,i+1,vs',us',k',H',recap (pl:=[]) (pl':=ycn fp s5.heap) J,T.keep _ _ _ st5 λb hb o e=>(pb b hb o e).1,λb hb=>?_,f',e',rv',z',w'⟩;obtain⟨o,e,_⟩:=T.obj _ _ st5 b hb;exact(pb b hb o e).2
 exact codeAny_compStart_list (loop _) (T.self X.A 0 _ _ _ (T.keep _ _ _ st2 (λb hb o e=>old b o e)) (loop _))
theorem zgy{i:Nat}{tg cp:List Str}{ci:List Nat}
  (hN:X.N.Nodup) (hi':X.N[i]?=some y) (hy:Loc X.env.scope y)
  (S:CSc X.N X.env.scope tg cp ci scope) (hcalm:X.calm=true) (hi:PI X target iter wi)
  (hg:∀cl C fp s H,PG (cxC X (tg++cp) scope cl C fp s H) target g) (hi2:∀cl C fp s H,PI (cxC X (tg++cp) scope cl C fp s H) t2 i2 wi2) (hg2:∀cl C fp s H,PG (cxC X (tg++cp) scope cl C fp s H) t2 g2) (he:∀cl C fp s H,PE (cxC X (tg++cp) scope cl C fp s H) elt te)
  (hsw:swapsWith (.ListComp elt [⟨target,iter,[],0⟩,⟨t2,i2,[],0⟩] scope pos) (some (.Name y py)) spos.line X.env=pure true:=by rfl)
  (hs:∀x,foldedSetIterable iter X.env x=pure x:=by intro _;rfl) (hs2:∀env x,foldedSetIterable i2 env x=pure x:=by intro _ _;rfl) (hf:X.fn y=true\/X.env.scope.names.lookup y=some .local:=by first|exact .inl rfl|exact .inr rfl|assumption) :
  PS X (.Assign [.Name y py] (.ListComp elt [⟨target,iter,[],0⟩,⟨t2,i2,[],0⟩] scope pos) spos) (tAsg (yg8 wi tg.length ci g wi2 g2 te) (zaj i)):=by
 intro pins s σ H D I h;obtain⟨cl,hclos,h1,h2⟩:=za4 (scope:=scope) (env:=X.env) λx hx hf=>I.ok.has x.1 (S.free x hx hf)
 rw[exec_Assign_Name_used _ _ _ _ hsw];refine wpAny_bind (wpAny_standAt (wpAny_bind ?_));show wpAny _ X.A (do let _ <-comprehension (.ListComp elt [⟨target,iter,[],0⟩,⟨t2,i2,[],0⟩] scope pos) scope X.env _ (newList []) false (eval iter X.env) (some (assign (.Name y py) X.env))) _ _ s;refine wpAny_bind (wpAny_mono (wpAny_comprehension_free (use:=some (assign (.Name y py) X.env)) (Q:=λ_ s'=>SP X pins D .next s') rfl hs hclos S.kind S.loc
  (thn (zgh S hcalm hi h1 h2 (hg cl) (hi2 cl) (hg2 cl) (he cl) hs2 I h) λx s1 q1=>thn q1 λit s2 q2=>thn q2 λacc s3 q3=>thn q3 λcenv s4 q4=>codeAny_mono q4 λr s' q=>?_)) (λ_ s' hq=>wpAny_pure (wpAny_pure hq)) λ_ _ e=>e)
 obtain⟨D',vs,H',e1,e2,I',f,G,q⟩:=q;subst e1 e2;show wpAny _ X.A (assign (.Name y py) X.env (.ref D')) _ _ _;obtain⟨m,o,es,ep,ho,hd,hk⟩:=G.ns;have pin:Inv X ((cenv.locals,o)::pins) σ (upd H' D' (.lst vs)) s':=I'.pins_of λp hp=>by
  rcases List.mem_cons.mp hp with z|z
  ·subst z;exact⟨ho,G.free,G.ne,G.nofs,λv z=>by rw[hd]at z;cases z⟩
  ·exact I'.pin p (List.mem_append_right _ z)
 refine wpAny_assign_Name (yaQ (v:=V.ref D') pin hN hi' hy (show RelV (.ref D') (.ref D') from rfl) (λs2 I2=>?_) hf);have I3:Inv X pins (σ.set i (some (.ref D'))) (upd H' D' (.lst vs)) s2:=I2.pins_of λp hp=>I2.pin p (List.mem_append_right _ (List.mem_cons_of_mem _ hp))
 have e2:=I2.pin (cenv.locals,o) (List.mem_append_right _ List.mem_cons_self);have G2:Gone X pins (upd H' D' (.lst vs)) s2 cenv.locals:=⟨⟨m,o,es,ep,e2.1,hd,hk⟩,G.free,G.ne,G.ab,G.cells,G.pins,G.nofs⟩
 exact⟨m,⟨o,es,ep,e2.1,hd,hk⟩,λh' hsb=>⟨_,_,G2.turned I3 hsb,q D' f⟩⟩
end
theorem yfQ{J:It}{n:Nat}{G:Hp->Prop}{y:Nat->V->Hp->Hp->Prop}(S:Seqs J n G y){σc:St}{g:TG}{In:List V->(List V->Hp->Prop)->St->Hp->Prop}{H:Hp}{Fn:List V->Hp->Prop}(Pv:Nat->List V->Hp->Prop)(h0:Pv 0 [] H)(hl:∀i acc H,i<=n->Pv i acc H->G H)
  (hs:∀i acc x H H',i<n->Pv i acc H->y i x H H'->g x σc H' λσ2 H2=>In acc (Pv (i+1)) σ2 H2)
  (hd:∀acc H,Pv n acc H->Fn acc H) :
  ∃W:ygC,(∃m,W 0 m [] H)/\∀i m acc H,W i m acc H->
   (J.stop i H/\Fn acc H)\/
   (J.go i H/\∃N:List V->Hp->Prop,(∀acc' H',N acc' H'->∃m',m'<m/\W (i+1) m' acc' H')/\∀x H',J.yld i H x H'->g x σc H' λσ2 H2=>In acc N σ2 H2):=by
 refine⟨λi m acc H=>m=n-i/\i<=n/\Pv i acc H,⟨n,by simp,Nat.zero_le _,h0⟩,?_⟩;rintro i m acc H ⟨rfl,hi,p⟩;by_cases hlt:i<n
 ·exact .inr ⟨S.go i H hlt (hl i acc H hi p),Pv (i+1),λacc' H' p'=>⟨n-(i+1),by lia,rfl,hlt,p'⟩,λx H' q=>hs i acc x H H' hlt p (S.yld i H x H' hlt (hl i acc H hi p) q)⟩
 ·have e:i=n:=by lia
  subst e;exact .inl ⟨S.stop H (hl _ acc H hi p),hd acc H p⟩
theorem zim{J:It}{n:Nat}{G:Hp->Prop}{y:Nat->V->Hp->Hp->Prop}(S:Seqs J n G y){g:TG}{te:TE}{σ:St}{acc:List V}{H:Hp}{N:List V->Hp->Prop}(Pv:Nat->St->List V->Hp->Prop)(h0:Pv 0 σ acc H)(hl:∀i σ acc H,i<=n->Pv i σ acc H->G H)
  (hz:∀i σ acc H,i<n->Pv i σ acc H->acc.length<sizeLine)
  (hs:∀i σ acc x H H',i<n->Pv i σ acc H->y i x H H'->g x σ H' λσ2 H2=>te σ2 H2 λv H3=>Pv (i+1) σ2 (acc++[v]) H3)
  (hd:∀σ acc H,Pv n σ acc H->N acc H) :
  ∃W:Nat->Nat->St->List V->Hp->Prop,(∃m,W 0 m σ acc H)/\∀i m σ acc H,W i m σ acc H->
   (J.stop i H/\N acc H)\/
   (J.go i H/\acc.length<sizeLine/\∃N2:St->List V->Hp->Prop,(∀σ' acc' H',N2 σ' acc' H'->∃m',m'<m/\W (i+1) m' σ' acc' H')/\∀x H',J.yld i H x H'->g x σ H' λσ2 H2=>te σ2 H2 λv H3=>N2 σ2 (acc++[v]) H3):=by
 refine⟨λi m σ acc H=>m=n-i/\i<=n/\Pv i σ acc H,⟨n,by simp,Nat.zero_le _,h0⟩,?_⟩;rintro i m σ acc H ⟨rfl,hi,p⟩;by_cases hlt:i<n
 ·exact .inr ⟨S.go i H hlt (hl i σ acc H hi p),hz i σ acc H hlt p,Pv (i+1),λσ' acc' H' p'=>⟨n-(i+1),by lia,rfl,hlt,p'⟩,λx H' q=>hs i σ acc x H H' hlt p (S.yld i H x H' hlt (hl i σ acc H hi p) q)⟩
 ·have e:i=n:=by lia
  subst e;exact .inl ⟨S.stop H (hl _ σ acc H hi p),hd σ acc H p⟩
end L2
end
section
namespace L2
open PySem PySem.Spec PyProof.Rows
section
variable {X:Cx}
theorem ye9{ns:List Int}(r:Vals (ns.map V.int) us):TruthOf P w A (λi v=>us.toArray[i]?=some v) (λi=>ns.getD i 0 != 0):=by
 intro i v s Q E hv q;have hv':us[i]?=some v:=by simpa using hv
 have hi:=(List.getElem?_eq_some_iff.mp hv').1;have l1:=r.length;rw[List.length_map]at l1;have g1:=Vals.getR r i (.int (ns.getD i 0)) v (by rw[List.getElem?_map,List.getElem?_eq_getElem (by lia)];simp[List.getD,show i<ns.length by lia]) hv';obtain⟨t1,rfl⟩:=g1;exact truthy_int q
theorem yfb(ns:List Int):(List.range ns.length).any (λi=>ns.getD i 0 != 0)=ns.any λn=>n != 0:=by
 induction ns with
 |nil=>rfl
 |cons b bs ih=>
  rw[List.length_cons,List.range_succ_eq_map,List.any_cons,List.any_cons,List.any_map];congr 1
end
end L2
end
section
namespace L2
open PySem PySem.W PySem.Calls PyProof.Rows
local macro_rules | `(tactic| ac_rfl) => `(tactic| first | omega | (dsimp only; omega))
def zhA:Bool->Keyed->Array Keyed->Nat->Nat->Nat->StateT SortSt Sem (Option Nat):=sortPriv% PySem.Builtin.gallop
def zgu:Array Keyed->Array Keyed->StateT SortSt Sem (Array Keyed):=sortPriv% PySem.Builtin.mergeLo
def zgt:Array Keyed->Array Keyed->StateT SortSt Sem (Array Keyed):=sortPriv% PySem.Builtin.mergeHi
section
variable {prog:Program} {w:World} {A:Around} {E:Value->Shared->Prop} {s:Shared} {κ:SortKind}
theorem jpN{α β σ:Type}{f:α->StateT σ Sem β}(I:α->Prop){Q:β->σ->Prop}{st:σ}{g:StateT σ Sem β}(k:(∀z,I z->wpS M A E s (f z) Q st)->wpS M A E s g Q st)(h:∀z,I z->wpS M A E s (f z) Q st):wpS M A E s g Q st:=k h
theorem S_if{α σ:Type}{c:Prop}[Decidable c]{m₁ m₂:StateT σ Sem α}{Q:α->σ->Prop}{st:σ}(h₁:c->wpS M A E s m₁ Q st)(h₂:¬ c->wpS M A E s m₂ Q st):wpS M A E s (if c then m₁ else m₂) Q st:=by
 split
 ·exact h₁ ‹_›
 ·exact h₂ ‹_›
theorem ybQ{β σ:Type}{a b:Nat}{f:Nat->β->StateT σ Sem (ForInStep β)}(I:Nat->β->σ->Prop)(R:β->σ->Prop){Q:β->σ->Prop}{c:β}{st:σ}(h:I a c st)(hend:∀c st,I (max a b) c st->R c st)(hq:∀c st,R c st->Q c st)
  (hstep:∀i c st,a<=i->i<b->I i c st->wpS M A E s (f i c) (λr st'=>match r with | .done c'=>R c' st' | .yield c'=>I (i+1) c' st') st):wpS M A E s (forIn [a:b] c f) Q st:=wpS_mono (wpS_forRange (Q:=R) I hstep hend h) hq
noncomputable def Answ(prog:Program)(w:World)(A:Around)(s:Shared)(κ:SortKind)(g:Keyed->Prop):Prop:=∀(x y:Keyed) (C:Bool->Shared->Prop),g x->g y->(∀b,C b s)->wpAny (model prog w) A (keyLt' κ x.1 y.1) C (λ_ _=>False) s
variable {g:Keyed->Prop} (hA:Answ prog w A s κ g)
include hA
theorem S_lt{st:SortSt}{x y:Keyed}{Q:Option Bool->SortSt->Prop}(hk:kindOf st=κ)(gx:g x)(gy:g y)(h:∀b,Q (some b) st):wpS (model prog w) A E s (lt' x y) Q st:=by
 rw[lt'_eq];refine wpS_bind (wpS_get ?_);rw[hk];refine wpS_bind (wpS_lift (wpAny_attempt (wpAny_mono (hA x y (λb s'=>s'=s/\∃c,b=c) gx gy λb=>⟨rfl,b,rfl⟩) (λb s' hb=>?_) λ_ _ e=>e.elim)));obtain⟨rfl,_⟩:=hb;exact⟨rfl,wpS_pure (h b)⟩
omit hA in
theorem yaA{st:SortSt}{a:Array Keyed}{i:Nat}{Q:Keyed->SortSt->Prop}(hi:i<a.size)(h:Q a[i] st):wpS (model prog w) A E s (elem' a i) Q st:=by
 rw[elem'_eq,Array.getElem?_eq_getElem hi];exact wpS_pure h
theorem zij{st:SortSt}{i j:Nat}{Q:Option Bool->SortSt->Prop}(hk:kindOf st=κ)(hi:i<(arrOf st).size)(hj:j<(arrOf st).size)(gs:∀x∈(arrOf st).toList,g x)(h:∀b,Q (some b) st):wpS (model prog w) A E s (ltAt' i j) Q st:=by
 rw[ltAt'_eq];refine wpS_bind (wpS_get ?_);refine wpS_bind (yaA hi (wpS_bind (yaA hj ?_)));exact S_lt hA hk (gs _ (by simp)) (gs _ (by simp)) h
omit hA in
theorem gd{a:Array Keyed}(gs:∀x∈a.toList,g x){i:Nat}(hi:i<a.size):g a[i]:=gs _ (by simp)
noncomputable def beyG(left:Bool)(key:Keyed)(a:Array Keyed)(j:Nat):StateT SortSt Sem (Option Bool):=elem' a j >>= λx=>if left=true then lt' x key else lt' key x >>= λr=>pure (r.map λb=>!b)
theorem zgw{st:SortSt}{left:Bool}{key:Keyed}{a:Array Keyed}{j:Nat}{Q:Option Bool->SortSt->Prop}(hk:kindOf st=κ)(gk:g key)(gs:∀x∈a.toList,g x)(hj:j<a.size)(h:∀b,Q (some b) st):wpS (model prog w) A E s (beyG left key a j) Q st:=by
 refine wpS_bind (yaA hj ?_);cases left
 ·exact wpS_bind (S_lt hA hk gk (gd gs hj) λb=>wpS_pure (h _))
 ·exact S_lt hA hk (gd gs hj) gk h
theorem zbH{st:SortSt}{left:Bool}{key:Keyed}{a:Array Keyed}{base n hint:Nat}{Q:Option Nat->SortSt->Prop}(hk:kindOf st=κ)(gk:g key)(gs:∀x∈a.toList,g x)(hb:base+n<=a.size)(hh:hint<n)(h:∀k,k<=n->Q (some k) st):wpS (model prog w) A E s (zhA left key a base n hint) Q st:=by
 have fin:∀(lo hi:Nat),hi<=n->wpS (model prog w) A E s (forIn [:n] ((none,lo,hi):Option (Option Nat)×Nat×Nat) λ_ z=>if z.2.1>=z.2.2 then pure (ForInStep.done (none,z.2.1,z.2.2)) else beyG left key a (base+(z.2.1+(z.2.2-z.2.1)/2)) >>= λr=>match r with
   |some c=>if c=true then pure (ForInStep.yield (none,z.2.1+(z.2.2-z.2.1)/2+1,z.2.2)) else pure (ForInStep.yield (none,z.2.1,z.2.1+(z.2.2-z.2.1)/2))
   |_=>pure (ForInStep.done (some none,z.2.1,z.2.2))) (λz st'=>st'=st/\z.1=none/\z.2.2<=n) st:=by
  intro lo hi h1;refine wpS_forRange (λ_ (z:Option (Option Nat)×Nat×Nat) st'=>st'=st/\z.1=none/\z.2.2<=n) ?_ (λ_ _ x=>x) ⟨rfl,rfl,h1⟩;rintro i ⟨r,lo,hi⟩ st' _ _ ⟨rfl,e,h1⟩;dsimp only at e h1 ⊢;split
  ·exact wpS_pure ⟨rfl,rfl,h1⟩
  ·refine wpS_bind (zgw hA hk gk gs (by lia) λc=>?_);cases c
   ·exact wpS_pure ⟨rfl,rfl,(by ac_rfl)⟩
   ·exact wpS_pure ⟨rfl,rfl,h1⟩
 refine wpS_bind ?_;refine zgw (j:=base+hint) hA hk gk gs (by lia) λc=>?_
 cases c
 ·refine wpS_bind (ybQ (λ_ z st'=>st'=st/\z.1=none) (λz st'=>st'=st/\z.1=none) ⟨rfl,rfl⟩ (λ_ _ x=>x) ?_ ?_)
  rotate_left
  ·rintro i ⟨r,lo,hi⟩ st' _ _ ⟨rfl,e⟩;dsimp only at e ⊢;split
   ·exact wpS_pure ⟨rfl,rfl⟩
   ·refine wpS_bind (zgw (j:=base+(hint-hi)) hA hk gk gs (by lia) λc=>?_);cases c
    ·exact wpS_pure ⟨rfl,rfl⟩
    ·exact wpS_pure ⟨rfl,rfl⟩
  ·rintro⟨r,lo,hi⟩ st' ⟨rfl,e⟩;dsimp only at e;subst e;refine wpS_bind (wpS_mono (fin _ _ (by lia)) ?_);rintro⟨r,lo',hi'⟩ st'' ⟨rfl,e,h1⟩;dsimp only at e h1;subst e;exact wpS_pure (h _ h1)
 ·refine wpS_bind (ybQ (λ_ z st'=>st'=st/\z.1=none) (λz st'=>st'=st/\z.1=none) ⟨rfl,rfl⟩ (λ_ _ x=>x) ?_ ?_)
  rotate_left
  ·rintro i ⟨r,lo,hi⟩ st' _ _ ⟨rfl,e⟩;dsimp only at e ⊢;split
   ·exact wpS_pure ⟨rfl,rfl⟩
   ·refine wpS_bind (zgw (j:=base+(hint+hi)) hA hk gk gs (by lia) λc=>?_);cases c
    ·exact wpS_pure ⟨rfl,rfl⟩
    ·exact wpS_pure ⟨rfl,rfl⟩
  ·rintro⟨r,lo,hi⟩ st' ⟨rfl,e⟩;dsimp only at e;subst e;refine wpS_bind (wpS_mono (fin _ _ (by lia)) ?_);rintro⟨r,lo',hi'⟩ st'' ⟨rfl,e,h1⟩;dsimp only at e h1;subst e;exact wpS_pure (h _ h1)
end
theorem nbeq{x y:Nat}(h:¬ (x==y)=true):x≠y:=λe=>h (by rw[e];exact beq_self_eq_true _)
theorem pm1{α:Type}(o U A D:List α):(o++U++A++D).Perm (o++A++(U++D)):=by
 rw[List.append_assoc,List.append_assoc,List.append_assoc];refine List.Perm.append_left o ?_;rw[<-List.append_assoc,<-List.append_assoc];exact List.Perm.append_right D List.perm_append_comm
theorem ziu{α:Type}{a:Array α}{i:Nat}(h:i<a.size):a.toList.drop i=a[i]::a.toList.drop (i+1):=by
 rw[List.drop_eq_getElem_cons (by simpa using h)];rfl
theorem zhb{α:Type}(a:Array α)(i k:Nat):a.toList.drop i=(a.extract i (i+k)).toList++a.toList.drop (i+k):=by
 rw[Array.toList_extract,List.extract_eq_take_drop,Nat.add_sub_cancel_left,<-List.drop_drop,List.take_append_drop]
theorem ydL{α:Type}(a:Array α)(i:Nat):(a.extract i a.size).toList=a.toList.drop i:=by
 rw[Array.toList_extract,List.extract_eq_take_drop,List.take_of_length_le (by simp)]
noncomputable def MJ(a b:Array Keyed)(c:Nat)(o:Array Keyed)(i j:Nat):Prop:=(o.toList++a.toList.drop i++b.toList.drop j).Perm (a.toList++b.toList)/\j<b.size/\i+1<a.size/\c<=i+j
section
variable {a b o:Array Keyed} {i j:Nat} {X:List Keyed}
theorem mj_b(h:(o.toList++a.toList.drop i++b.toList.drop j).Perm X)(hj:j<b.size):((o.push b[j]).toList++a.toList.drop i++b.toList.drop (j+1)).Perm X:=by
 rw[ziu hj]at h;rw[Array.toList_push];exact(pm1 _ [b[j]] _ _).trans h
theorem mj_a(h:(o.toList++a.toList.drop i++b.toList.drop j).Perm X)(hi:i<a.size):((o.push a[i]).toList++a.toList.drop (i+1)++b.toList.drop j).Perm X:=by
 rw[ziu hi]at h;rw[Array.toList_push]
 simpa using h
theorem yiF(k:Nat)(h:(o.toList++a.toList.drop i++b.toList.drop j).Perm X):((o++b.extract j (j+k)).toList++a.toList.drop i++b.toList.drop (j+k)).Perm X:=by
 rw[zhb b j k]at h;rw[Array.toList_append];exact(pm1 _ _ _ _).trans h
theorem ziG(k:Nat)(h:(o.toList++a.toList.drop i++b.toList.drop j).Perm X):((o++a.extract i (i+k)).toList++a.toList.drop (i+k)++b.toList.drop j).Perm X:=by
 rw[zhb a i k]at h;rw[Array.toList_append]
 simpa using h
theorem yc5(h:(o.toList++a.toList.drop i++b.toList.drop j).Perm X):(o++a.extract i a.size++b.extract j b.size).toList.Perm X:=by
 rw[Array.toList_append,Array.toList_append,ydL,ydL];exact h
theorem ydN(h:(o.toList++a.toList.drop i++b.toList.drop j).Perm X):(o++b.extract j b.size++a.extract i a.size).toList.Perm X:=by
 rw[Array.toList_append,Array.toList_append,ydL,ydL];refine List.Perm.trans ?_ h;rw[List.append_assoc,List.append_assoc];exact List.Perm.append_left _ List.perm_append_comm
end
noncomputable def MR(a b:Array Keyed)(c:Nat)(r:Option (Array Keyed))(o:Array Keyed)(i j:Nat):Prop:=(∃x,r=some x/\x.toList.Perm (a.toList++b.toList))\/(r=none/\MJ a b c o i j)
noncomputable def Sm(st st':SortSt):Prop:=kindOf st'=kindOf st/\arrOf st'=arrOf st/\pendingOf st'=pendingOf st/\failedOf st'=failedOf st
section
variable {prog:Program} {w:World} {A:Around} {E:Value->Shared->Prop} {s:Shared} {κ:SortKind}
variable {g:Keyed->Prop} (hA:Answ prog w A s κ g)
include hA
theorem yfM{st:SortSt}{a b:Array Keyed}{Q:Array Keyed->SortSt->Prop}(hk:kindOf st=κ)(ga:∀x∈a.toList,g x)(gb:∀x∈b.toList,g x)(na:0<a.size)(nb:0<b.size)(h:∀r st',r.toList.Perm (a.toList++b.toList)->Sm st st'->Q r st'):wpS (model prog w) A E s (zgu a b) Q st:=by
 refine wpS_bind (wpS_lift (wpAny_rule ⟨rfl,?_⟩));refine wpS_bind (yaA nb ?_);have p0:((#[b[0]]:Array Keyed).toList++a.toList.drop 0++b.toList.drop 1).Perm (a.toList++b.toList):=mj_b (o:=#[]) (i:=0) (j:=0) (by simp) nb;refine S_if (λ_=>wpS_pure (h _ _ (yc5 p0) ⟨rfl,rfl,rfl,rfl⟩)) λc1=>?_
 refine S_if (λ_=>wpS_pure (h _ _ (ydN p0) ⟨rfl,rfl,rfl,rfl⟩)) λc2=>?_
 have c1':1≠b.size:=λe=>c1 (by rw[<-e];rfl)
 have c2':0+1≠a.size:=λe=>c2 (by rw[<-e];rfl)
 refine wpS_bind (wpS_get ?_);refine wpS_bind (ybQ (λi z st'=>Sm st st'/\z.1=none/\MJ a b (i+1) z.2.1 z.2.2.1 z.2.2.2.1) (λz st'=>Sm st st'/\∃x,z.1=some x/\x.toList.Perm (a.toList++b.toList)) ⟨⟨rfl,rfl,rfl,rfl⟩,rfl,p0,(by ac_rfl),(by ac_rfl),(by ac_rfl)⟩ ?_ ?_ ?_)
 ·rintro⟨r,o,i,j,m⟩ st' ⟨_,_,p,q1,q2,q3⟩
  exfalso
  dsimp only at q1 q2 q3
  lia
 ·rintro⟨r,o,i,j,m⟩ st' ⟨e,x,e2,p⟩;dsimp only at e2;subst e2;exact wpS_pure (h _ _ p e)
 rintro c ⟨r,o,i,j,m⟩ st' _ _ ⟨e0,e1,p⟩;refine wpS_bind (ybQ (λk z st'=>Sm st st'/\z.1=none/\MJ a b (c+1+k) z.2.1 z.2.2.1 z.2.2.2.1) (λz st'=>Sm st st'/\MR a b (c+1+1) z.1 z.2.1 z.2.2.1 z.2.2.2.1) ⟨e0,rfl,p⟩ ?_ ?_ ?_)
 ·rintro⟨r,o,i,j,m⟩ st' ⟨e,e1,p,q1,q2,q3⟩;dsimp only at q1 q2 q3 e1;exact⟨e,.inr ⟨e1,p,q1,q2,(by ac_rfl)⟩⟩
 rotate_left
 ·rintro k ⟨r,o,i,j,ac,bc⟩ st' _ _ ⟨e0,e1,p,q1,q2,q3⟩;dsimp only at e1 p q1 q2 q3;have q2':i<a.size:=by lia
  refine wpS_bind (yaA q1 (wpS_bind (yaA q2' (wpS_bind (S_lt hA (e0.1.trans hk) (gd gb q1) (gd ga q2') λc=>?_)))));cases c
  ·refine wpS_bind (yaA (a:=a) (i:=i) (by lia) ?_);have p':=mj_a p (by lia);refine S_if (λ_=>wpS_pure ⟨e0,.inl ⟨_,rfl,ydN p'⟩⟩) λc3=>?_
   have c3':i+1+1≠a.size:=λe=>c3 (by rw[e];exact beq_self_eq_true _)
   refine S_if (λ_=>wpS_pure ⟨e0,.inr ⟨rfl,p',q1,(by ac_rfl),(by ac_rfl)⟩⟩) λ_=>wpS_pure ⟨e0,rfl,p',q1,(by ac_rfl),(by ac_rfl)⟩
  ·refine wpS_bind (yaA (a:=b) (i:=j) (by lia) ?_);have p':=mj_b p q1;refine S_if (λ_=>wpS_pure ⟨e0,.inl ⟨_,rfl,yc5 p'⟩⟩) λc3=>?_
   have c3':j+1≠b.size:=λe=>c3 (by rw[e];exact beq_self_eq_true _)
   refine S_if (λ_=>wpS_pure ⟨e0,.inr ⟨rfl,p',(by ac_rfl),q2,(by ac_rfl)⟩⟩) λ_=>wpS_pure ⟨e0,rfl,p',(by ac_rfl),q2,(by ac_rfl)⟩
 rintro⟨r,o,i,j,ac,bc⟩ st1 ⟨e0,⟨x,e,px⟩ |⟨e1,p⟩⟩
 ·dsimp only at e;subst e;exact wpS_pure ⟨e0,_,rfl,px⟩
 dsimp only at e1 p;subst e1;refine wpS_bind (wpS_lift (wpAny_rule ⟨rfl,?_⟩));refine wpS_bind (ybQ (λ_ z st'=>Sm st st'/\z.1=none/\MJ a b (c+1+1) z.2.1 z.2.2.1 z.2.2.2.1) (λz st'=>Sm st st'/\MR a b (c+1+1) z.1 z.2.1 z.2.2.1 z.2.2.2.1) ⟨e0,rfl,p⟩ ?_ ?_ ?_)
 ·rintro⟨r,o,i,j,m⟩ st' ⟨e,e1,p⟩;exact⟨e,.inr ⟨e1,p⟩⟩
 ·rintro⟨r,o,i,j,m,ac,bc⟩ st1 ⟨e0,⟨x,e,px⟩ |⟨e1,p⟩⟩
  ·dsimp only at e;subst e;exact wpS_pure ⟨e0,_,rfl,px⟩
  dsimp only at e1 p;subst e1;exact wpS_bind (wpS_modify (wpS_pure ⟨e0,rfl,p⟩))
 rintro k ⟨r,o,i,j,m,ac,bc⟩ st1 _ _ ⟨e0,e1,p,q1,q2,q3⟩;dsimp only at e1 p q1 q2 q3;refine S_if (λ_=>?_) λ_=>?_
 all_goals
  refine wpS_bind (wpS_modify (wpS_bind (yaA q1 (wpS_bind (zbH hA (e0.1.trans hk) (gd gb q1) ga (base:=i) (n:=a.size-i) (hint:=0) (by ac_rfl) (by ac_rfl) λk hk1=>S_if (λ_=>?_) λ_=>?_)))));have P1:=ziG k p;refine S_if (λ_=>wpS_pure ⟨e0,.inl ⟨_,rfl,ydN P1⟩⟩) λc1=>S_if (λ_=>wpS_pure ⟨e0,.inl ⟨_,rfl,yc5 P1⟩⟩) λc2=>?_
  have c1':=nbeq c1;have c2':=nbeq c2;dsimp only at c1' c2';have Q2:i+k<a.size:=by lia
  rotate_left
  have P1:=p;have Q2:i<a.size:=by lia
  all_goals
   have P2:=mj_b P1 q1;refine wpS_bind (yaA q1 (S_if (λ_=>wpS_pure ⟨e0,.inl ⟨_,rfl,yc5 P2⟩⟩) λc3=>?_));have c3':=nbeq c3;dsimp only at c3';refine wpS_bind (yaA Q2 (wpS_bind (zbH hA (e0.1.trans hk) (gd ga Q2) gb (base:=j+1) (n:=b.size-(j+1)) (hint:=0) (by ac_rfl) (by ac_rfl) λk2 hk2=>S_if (λ_=>?_) λ_=>?_)));have P3:=yiF k2 P2;refine S_if (λ_=>wpS_pure ⟨e0,.inl ⟨_,rfl,yc5 P3⟩⟩) λc4=>?_
   have c4':=nbeq c4;dsimp only at c4'
   rotate_left
   have P3:=P2
   all_goals
    have P4:=mj_a P3 Q2;refine wpS_bind (yaA Q2 (S_if (λ_=>wpS_pure ⟨e0,.inl ⟨_,rfl,ydN P4⟩⟩) λc5=>?_));have c5':=nbeq c5;dsimp only at c5';exact S_if (λ_=>wpS_pure ⟨e0,.inr ⟨rfl,P4,(by ac_rfl),(by ac_rfl),(by ac_rfl)⟩⟩) λ_=>wpS_pure ⟨e0,rfl,P4,(by ac_rfl),(by ac_rfl),(by ac_rfl)⟩
end
theorem yh9{α:Type}{a:Array α}{n:Nat}(h:0<n)(h2:n<=a.size):a.toList.take n=a.toList.take (n-1)++[a[n-1]]:=by
 have e:n=n-1+1:=by lia
 have h3:n-1<a.toList.length:=by rw[Array.length_toList];lia
 conv=>lhs;rw[e,List.take_succ_eq_append_getElem h3]
 rfl
theorem ze3{α:Type}(a:Array α){k n:Nat}(h:k<=n):a.toList.take n=a.toList.take k++(a.extract k n).toList:=by
 rw[Array.toList_extract,List.extract_eq_take_drop,List.take_drop];have e:k+(n-k)=n:=by lia
 rw[e];have:=(List.take_append_drop k (a.toList.take n)).symm
 rwa [List.take_take,Nat.min_eq_left h]at this
theorem ygN{α:Type}(a:Array α)(n:Nat):(a.extract 0 n).toList=a.toList.take n:=by
 rw[Array.toList_extract,List.extract_eq_take_drop,List.drop_zero,Nat.sub_zero]
noncomputable def HJ(a b:Array Keyed)(c:Nat)(o:Array Keyed)(i j:Nat):Prop:=(a.toList.take i++b.toList.take j++o.toList.reverse).Perm (a.toList++b.toList)/\1<=i/\i<=a.size/\2<=j/\j<=b.size/\i+j+c<=a.size+b.size
section
variable {a b o:Array Keyed} {i j:Nat} {X:List Keyed}
theorem hj_a(h:(a.toList.take i++b.toList.take j++o.toList.reverse).Perm X)(h0:0<i)(hi:i<=a.size):(a.toList.take (i-1)++b.toList.take j++(o.push a[i-1]).toList.reverse).Perm X:=by
 rw[yh9 h0 hi]at h;rw[Array.toList_push,List.reverse_append];exact(pm1 _ [a[i-1]] _ _).symm.trans h
theorem hj_b(h:(a.toList.take i++b.toList.take j++o.toList.reverse).Perm X)(h0:0<j)(hj:j<=b.size):(a.toList.take i++b.toList.take (j-1)++(o.push b[j-1]).toList.reverse).Perm X:=by
 rw[yh9 h0 hj]at h;rw[Array.toList_push,List.reverse_append]
 simpa using h
theorem ziO{k:Nat}(h:(a.toList.take i++b.toList.take j++o.toList.reverse).Perm X)(hk:k<=i)(hi:i<=a.size):(a.toList.take k++b.toList.take j++(o++(a.extract k i).reverse).toList.reverse).Perm X:=by
 rw[ze3 a hk]at h;rw[Array.toList_append,List.reverse_append,Array.toList_reverse,List.reverse_reverse];exact(pm1 _ _ _ _).symm.trans h
theorem ziN{k:Nat}(h:(a.toList.take i++b.toList.take j++o.toList.reverse).Perm X)(hk:k<=j)(hj:j<=b.size):(a.toList.take i++b.toList.take k++(o++(b.extract k j).reverse).toList.reverse).Perm X:=by
 rw[ze3 b hk]at h;rw[Array.toList_append,List.reverse_append,Array.toList_reverse,List.reverse_reverse]
 simpa using h
theorem ycS(h:(a.toList.take i++b.toList.take j++o.toList.reverse).Perm X):(a.extract 0 i++b.extract 0 j++o.reverse).toList.Perm X:=by
 rw[Array.toList_append,Array.toList_append,ygN,ygN,Array.toList_reverse];exact h
theorem zcs(h:(a.toList.take i++b.toList.take j++o.toList.reverse).Perm X):(b.extract 0 j++a.extract 0 i++o.reverse).toList.Perm X:=by
 rw[Array.toList_append,Array.toList_append,ygN,ygN,Array.toList_reverse];exact(List.Perm.append_right _ List.perm_append_comm).trans h
end
noncomputable def HR(a b:Array Keyed)(c:Nat)(r:Option (Array Keyed))(o:Array Keyed)(i j:Nat):Prop:=(∃x,r=some x/\x.toList.Perm (a.toList++b.toList))\/(r=none/\HJ a b c o i j)
section
variable {prog:Program} {w:World} {A:Around} {E:Value->Shared->Prop} {s:Shared} {κ:SortKind}
variable {g:Keyed->Prop} (hA:Answ prog w A s κ g)
include hA
theorem zfX{st:SortSt}{a b:Array Keyed}{Q:Array Keyed->SortSt->Prop}(hk:kindOf st=κ)(ga:∀x∈a.toList,g x)(gb:∀x∈b.toList,g x)(na:0<a.size)(nb:0<b.size)(h:∀r st',r.toList.Perm (a.toList++b.toList)->Sm st st'->Q r st'):wpS (model prog w) A E s (zgt a b) Q st:=by
 refine wpS_bind (wpS_lift (wpAny_rule ⟨rfl,?_⟩));refine wpS_bind (yaA (a:=a) (i:=a.size-1) (by lia) ?_);have p0:(a.toList.take (a.size-1)++b.toList.take b.size++(#[a[a.size-1]]:Array Keyed).toList.reverse).Perm (a.toList++b.toList):=by
  refine hj_a (o:=#[]) (i:=a.size) ?_ na (Nat.le_refl _);rw[List.take_of_length_le (by simp),List.take_of_length_le (by simp)];simp
 refine S_if (λ_=>wpS_pure (h _ _ (ycS p0) ⟨rfl,rfl,rfl,rfl⟩)) λc1=>?_
 refine S_if (λ_=>wpS_pure (h _ _ (zcs p0) ⟨rfl,rfl,rfl,rfl⟩)) λc2=>?_
 have c1':=nbeq c1;have c2':=nbeq c2;refine wpS_bind (wpS_get ?_);refine wpS_bind (ybQ (λi z st'=>Sm st st'/\z.1=none/\HJ a b (i+1) z.2.2.2.1 z.2.1 z.2.2.1) (λz st'=>Sm st st'/\∃x,z.1=some x/\x.toList.Perm (a.toList++b.toList)) ⟨⟨rfl,rfl,rfl,rfl⟩,rfl,p0,(by ac_rfl),(by ac_rfl),(by ac_rfl),(by ac_rfl),(by ac_rfl)⟩ ?_ ?_ ?_)
 ·rintro⟨r,na,nb,o,m⟩ st' ⟨_,_,p,q1,q2,q3,q4,q5⟩
  exfalso
  dsimp only at q1 q2 q3 q4 q5
  lia
 ·rintro⟨r,na,nb,o,m⟩ st' ⟨e,x,e2,p⟩;dsimp only at e2;subst e2;exact wpS_pure (h _ _ p e)
 rintro c ⟨r,na,nb,o,m⟩ st' _ _ ⟨e0,e1,p⟩;refine wpS_bind (ybQ (λk z st'=>Sm st st'/\z.1=none/\HJ a b (c+1+k) z.2.2.2.1 z.2.1 z.2.2.1) (λz st'=>Sm st st'/\HR a b (c+1+1) z.1 z.2.2.2.1 z.2.1 z.2.2.1) ⟨e0,rfl,p⟩ ?_ ?_ ?_)
 ·rintro⟨r,na,nb,o,m⟩ st' ⟨e,e1,p,q1,q2,q3,q4,q5⟩;dsimp only at q1 q2 q3 q4 q5 e1;exact⟨e,.inr ⟨e1,p,q1,q2,q3,q4,(by ac_rfl)⟩⟩
 rotate_left
 ·rintro k ⟨r,na,nb,o,ac,bc⟩ st' _ _ ⟨e0,e1,p,q1,q2,q3,q4,q5⟩;dsimp only at e1 p q1 q2 q3 q4 q5;have r1:nb-1<b.size:=by lia
  have r2:na-1<a.size:=by lia
  refine wpS_bind (yaA r1 (wpS_bind (yaA r2 (wpS_bind (S_lt hA (e0.1.trans hk) (gd gb r1) (gd ga r2) λc=>?_)))));cases c
  ·refine wpS_bind (yaA r1 ?_);have p':=hj_b p (by lia) q4;refine S_if (λ_=>wpS_pure ⟨e0,.inl ⟨_,rfl,zcs p'⟩⟩) λc3=>?_
   have c3':=nbeq c3;dsimp only at c3';refine S_if (λ_=>wpS_pure ⟨e0,.inr ⟨rfl,p',q1,q2,(by ac_rfl),(by ac_rfl),(by ac_rfl)⟩⟩) λ_=>wpS_pure ⟨e0,rfl,p',q1,q2,(by ac_rfl),(by ac_rfl),(by ac_rfl)⟩
  ·refine wpS_bind (yaA r2 ?_);have p':=hj_a p q1 q2;refine S_if (λ_=>wpS_pure ⟨e0,.inl ⟨_,rfl,ycS p'⟩⟩) λc3=>?_
   have c3':=nbeq c3;dsimp only at c3';refine S_if (λ_=>wpS_pure ⟨e0,.inr ⟨rfl,p',(by ac_rfl),(by ac_rfl),q3,q4,(by ac_rfl)⟩⟩) λ_=>wpS_pure ⟨e0,rfl,p',(by ac_rfl),(by ac_rfl),q3,q4,(by ac_rfl)⟩
 rintro⟨r,na,nb,o,ac,bc⟩ st1 ⟨e0,⟨x,e,px⟩ |⟨e1,p⟩⟩
 ·dsimp only at e;subst e;exact wpS_pure ⟨e0,_,rfl,px⟩
 dsimp only at e1 p;subst e1;refine wpS_bind (wpS_lift (wpAny_rule ⟨rfl,?_⟩));refine wpS_bind (ybQ (λ_ z st'=>Sm st st'/\z.1=none/\HJ a b (c+1+1) z.2.2.2.1 z.2.1 z.2.2.1) (λz st'=>Sm st st'/\HR a b (c+1+1) z.1 z.2.2.2.1 z.2.1 z.2.2.1) ⟨e0,rfl,p⟩ ?_ ?_ ?_)
 ·rintro⟨r,na,nb,o,m⟩ st' ⟨e,e1,p⟩;exact⟨e,.inr ⟨e1,p⟩⟩
 ·rintro⟨r,na,nb,o,m,ac,bc⟩ st1 ⟨e0,⟨x,e,px⟩ |⟨e1,p⟩⟩
  ·dsimp only at e;subst e;exact wpS_pure ⟨e0,_,rfl,px⟩
  dsimp only at e1 p;subst e1;exact wpS_bind (wpS_modify (wpS_pure ⟨e0,rfl,p⟩))
 rintro k ⟨r,na,nb,o,m,ac,bc⟩ st1 _ _ ⟨e0,e1,p,q1,q2,q3,q4,q5⟩;dsimp only at e1 p q1 q2 q3 q4 q5;have r1:nb-1<b.size:=by lia
 extract_lets _ _ _ _ _ _ _ _ _ _ _ _ jp _
 refine jpN (f:=λz=>jp () z) (λ_=>True) (λkey=>S_if (λ_=>key _ trivial) λ_=>key _ trivial) λz _=>?_
 refine wpS_bind (wpS_modify (wpS_bind (yaA r1 (wpS_bind (zbH hA (e0.1.trans hk) (gd gb r1) ga (base:=0) (n:=na) (hint:=na-1) (by ac_rfl) (by ac_rfl) λk hk1=>?_)))));dsimp -zeta only
 extract_lets k1 ac2 jp2 _ _
 have P1:=ziO p hk1 q2;refine jpN (f:=λz:Nat×Array Keyed=>jp2 () z.1 z.2) (λz=>(a.toList.take z.1++b.toList.take nb++z.2.toList.reverse).Perm (a.toList++b.toList)/\0<z.1/\z.1<=na) (λkey=>S_if (λ_=>S_if (λ_=>wpS_pure ⟨e0,.inl ⟨_,rfl,ycS P1⟩⟩) λc1=>key (k,_) ⟨P1,Nat.pos_of_ne_zero (nbeq c1),hk1⟩) λ_=>key (na,o) ⟨p,q1,Nat.le_refl _⟩) λz hz=>?_
 obtain⟨P1,Q3,Q5⟩:=hz;have Q4:=Nat.le_trans Q5 q2;have P2:=hj_b P1 (by ac_rfl) q4;refine wpS_bind (yaA r1 (S_if (λ_=>wpS_pure ⟨e0,.inl ⟨_,rfl,zcs P2⟩⟩) λc3=>?_));have c3':nb-1≠1:=nbeq c3;have Q2:z.1-1<a.size:=by lia
 refine wpS_bind (yaA Q2 (wpS_bind (zbH hA (e0.1.trans hk) (gd ga Q2) gb (base:=0) (n:=nb-1) (hint:=nb-1-1) (by ac_rfl) (by ac_rfl) λk2 hk2=>?_)));have P3:=ziN (k:=k2) P2 (by ac_rfl) (by ac_rfl);dsimp -zeta only
 extract_lets k3 bc3 n3 jp3 _ _
 refine jpN (f:=λy:Nat×Array Keyed=>jp3 () y.1 y.2) (λy=>(a.toList.take z.1++b.toList.take y.1++y.2.toList.reverse).Perm (a.toList++b.toList)/\2<=y.1/\y.1<=nb-1) (λkey=>S_if (λ_=>S_if (λ_=>wpS_pure ⟨e0,.inl ⟨_,rfl,zcs P3⟩⟩) λc4=>S_if (λ_=>wpS_pure ⟨e0,.inl ⟨_,rfl,ycS P3⟩⟩) λc6=>key (k2,_) ⟨P3,by have:=nbeq c4;have:=nbeq c6;dsimp only at *;lia,by dsimp only;lia⟩) λ_=>key (nb-1,_) ⟨P2,by dsimp only;lia,by dsimp only;lia⟩) λy hy=>?_
 obtain⟨P3,h2,h3⟩:=hy;have P4:=hj_a P3 Q3 Q4;refine wpS_bind (yaA Q2 (S_if (λ_=>wpS_pure ⟨e0,.inl ⟨_,rfl,ycS P4⟩⟩) λc5=>?_));have c5':n3≠0:=nbeq c5;have e3:n3=z.1-1:=rfl;exact S_if (λ_=>wpS_pure ⟨e0,.inr ⟨rfl,P4,(by ac_rfl),(by ac_rfl),(by ac_rfl),(by ac_rfl),(by ac_rfl)⟩⟩) λ_=>wpS_pure ⟨e0,rfl,P4,(by ac_rfl),(by ac_rfl),(by ac_rfl),(by ac_rfl),(by ac_rfl)⟩
end
end L2
end
section
namespace L2
open PySem PySem.W PySem.Calls PyProof.Rows
local macro_rules | `(tactic| ac_rfl) => `(tactic| first | omega | (dsimp only; omega))
noncomputable def Pm(st st':SortSt):Prop:=kindOf st'=kindOf st/\pendingOf st'=pendingOf st/\failedOf st'=failedOf st/\(arrOf st').toList.Perm (arrOf st).toList
theorem Pm.rfl{st:SortSt}:Pm st st:=⟨Eq.refl _,Eq.refl _,Eq.refl _,.refl _⟩
theorem Pm.trans{a b c:SortSt}(x:Pm a b)(y:Pm b c):Pm a c:=⟨y.1.trans x.1,y.2.1.trans x.2.1,y.2.2.1.trans x.2.2.1,y.2.2.2.trans x.2.2.2⟩
theorem Pm.size{a b:SortSt}(x:Pm a b):(arrOf b).size=(arrOf a).size:=by
 have:=x.2.2.2.length_eq
 rwa [Array.length_toList,Array.length_toList]at this
section
variable {prog:Program} {w:World} {A:Around} {E:Value->Shared->Prop} {s:Shared} {κ:SortKind}
theorem ygo{st:SortSt}{i j:Nat}{Q:Unit->SortSt->Prop}(h:∀st',Pm st st'->Q () st'):wpS (model prog w) A E s (reverseSlice' i j) Q st:=by
 rw[reverseSlice'_eq];exact wpS_modify (h _ ⟨rfl,rfl,rfl,Array.perm_iff_toList_perm.mp (mirror_perm _ _ _ _)⟩)
theorem yit{st:SortSt}{i j:Nat}{Q:Unit->SortSt->Prop}(h:∀st',Pm st st'->Q () st'):wpS (model prog w) A E s (moveDown' i j) Q st:=by
 rw[moveDown'_eq];exact wpS_modify (h _ ⟨rfl,rfl,rfl,Array.perm_iff_toList_perm.mp (bubble_perm _ _ _)⟩)
variable {g:Keyed->Prop} (hA:Answ prog w A s κ g)
include hA
theorem ycI{st st':SortSt}{i j:Nat}{Q:Option Bool->SortSt->Prop}(hk:kindOf st=κ)(gs:∀x∈(arrOf st).toList,g x)(e:Pm st st')(hi:i<(arrOf st).size)(hj:j<(arrOf st).size)(h:∀b,Q (some b) st'):wpS (model prog w) A E s (ltAt' i j) Q st' :=
 zij hA (e.1.trans hk) (by rw[e.size];exact hi) (by rw[e.size];exact hj) (λx hx=>gs x (e.2.2.2.mem_iff.mp hx)) h
theorem yhj{st st':SortSt}{lo nrem n:Nat}{Q:Option (Option Nat)×Nat->SortSt->Prop}(hk:kindOf st=κ)(gs:∀x∈(arrOf st).toList,g x)(hz:lo+nrem<=(arrOf st).size)(e:Pm st st')(h1:1<=n)(h2:n<=nrem)(h:∀m,1<=m->m<=nrem->Q (none,m) st'):wpS (model prog w) A E s (forIn [n:nrem] ((none,n):Option (Option Nat)×Nat) λ_ z=>ltAt' (lo+z.2) (lo+z.2-1) >>= λr=>match r with
   |some c=>if c=true then pure (ForInStep.done (none,z.2)) else pure (ForInStep.yield (none,z.2+1))
   |_=>pure (ForInStep.done (some none,z.2))) Q st':=by
 refine ybQ (λi z u=>u=st'/\z.1=none/\1<=z.2/\z.2<=i) (λz u=>u=st'/\z.1=none/\1<=z.2/\z.2<=nrem) ⟨rfl,rfl,h1,Nat.le_refl _⟩ ?_ ?_ ?_
 ·rintro⟨r,m⟩ u ⟨h1,h2,h3,h4⟩;exact⟨h1,h2,h3,by lia⟩
 ·rintro⟨r,m⟩ u ⟨rfl,h2,h3,h4⟩;dsimp only at h2;subst h2;exact h m h3 h4
 ·rintro i ⟨r,m⟩ u _ _ ⟨rfl,h2,h3,h4⟩;dsimp only at h2 h3 h4;refine wpS_bind (ycI hA hk gs e (by ac_rfl) (by ac_rfl) λc=>?_);cases c
  ·exact wpS_pure ⟨rfl,rfl,(by ac_rfl),(by ac_rfl)⟩
  ·exact wpS_pure ⟨rfl,rfl,h3,(by ac_rfl)⟩
theorem zhB{st:SortSt}{lo nrem:Nat}{Q:Option Nat->SortSt->Prop}(hk:kindOf st=κ)(gs:∀x∈(arrOf st).toList,g x)(hz:lo+nrem<=(arrOf st).size)(h1:1<=nrem)(h:∀n st',1<=n->n<=nrem->Pm st st'->Q (some n) st'):wpS (model prog w) A E s (countRun' lo nrem) Q st:=by
 refine wpS_bind (yhj hA hk gs hz Pm.rfl (Nat.le_refl _) h1 λn n1 n2=>?_);refine S_if (λ_=>wpS_pure (h _ _ n1 n2 Pm.rfl)) λc1=>?_
 have c1':=nbeq c1;dsimp only at c1';refine S_if (λ_=>wpS_bind (ycI hA hk gs Pm.rfl (by ac_rfl) (by ac_rfl) λc=>?_)) λ_=>?_
 cases c
 rotate_left
 exact wpS_pure (h _ _ n1 n2 Pm.rfl);have e:Pm st st:=Pm.rfl
 rotate_left
 refine wpS_bind (ygo λst1 e=>?_)
 all_goals
  refine wpS_bind (wpS_lift (wpAny_rule ⟨rfl,?_⟩));refine wpS_bind (ybQ (λi z u=>Pm st u/\z.1=none/\1<=z.2.1/\z.2.1<=i) (λz u=>Pm st u/\z.1=none/\1<=z.2.1/\z.2.1<=nrem) ⟨e,rfl,(by ac_rfl),Nat.le_refl _⟩ ?_ ?_ ?_)
  ·rintro⟨r,m⟩ u ⟨h1,h2,h3,h4⟩;dsimp only at h4;exact⟨h1,h2,h3,(by ac_rfl)⟩
  ·rintro⟨r,m,q⟩ u ⟨e,h2,h3,h4⟩;dsimp only at h2 h3 h4;subst h2;refine S_if (λ_=>wpS_bind (ygo λu1 e1=>?_)) λ_=>?_
   ·refine wpS_bind (ygo λu2 e2=>?_);refine wpS_bind (yhj hA hk gs hz ((e.trans e1).trans e2) h3 h4 λn n1 n2=>?_);exact wpS_pure (h _ _ n1 n2 ((e.trans e1).trans e2))
   ·refine wpS_bind (ygo λu2 e2=>?_);refine wpS_bind (yhj hA hk gs hz (e.trans e2) h3 h4 λn n1 n2=>?_);exact wpS_pure (h _ _ n1 n2 (e.trans e2))
  ·rintro i ⟨r,m,q⟩ u _ _ ⟨e,h2,h3,h4⟩;dsimp only at h2 h3 h4;refine wpS_bind (ycI hA hk gs e (by ac_rfl) (by ac_rfl) λc=>?_);refine S_if (λ_=>?_) λ_=>?_
   rotate_left
   ·refine wpS_bind (ycI hA hk gs e (by ac_rfl) (by ac_rfl) λc=>?_);cases c
    ·exact wpS_pure ⟨e,rfl,(by ac_rfl),(by ac_rfl)⟩
    ·exact wpS_pure ⟨e,rfl,h3,(by ac_rfl)⟩
   ·refine S_if (λ_=>wpS_bind (ygo λu1 e1=>?_)) λ_=>?_
    ·exact wpS_pure ⟨e.trans e1,rfl,(by ac_rfl),(by ac_rfl)⟩
    ·exact wpS_pure ⟨e,rfl,(by ac_rfl),(by ac_rfl)⟩
theorem ziI{st:SortSt}{lo n ok:Nat}{Q:Bool->SortSt->Prop}(hk:kindOf st=κ)(gs:∀x∈(arrOf st).toList,g x)(hz:lo+n<=(arrOf st).size)(h:∀st',Pm st st'->Q true st'):wpS (model prog w) A E s (binarySort' lo n ok) Q st:=by
 refine wpS_bind (ybQ (λi z u=>Pm st u/\z.1=none) (λz u=>Pm st u/\z.1=none) ⟨Pm.rfl,rfl⟩ (λ_ _ x=>x) ?_ ?_)
 ·rintro⟨r,z⟩ u ⟨e,h2⟩;dsimp only at h2;subst h2;exact wpS_pure (h _ e)
 ·rintro k ⟨r,z⟩ u k1 k2 ⟨e,h2⟩;refine wpS_bind (ybQ (λi z u=>Pm st u/\z.1=none/\z.2.2<=k) (λz u=>Pm st u/\z.1=none) ⟨e,rfl,Nat.le_refl _⟩ ?_ ?_ ?_)
  ·rintro z u ⟨h1,h2,_⟩;exact⟨h1,h2⟩
  ·rintro⟨r,l,m⟩ u ⟨e,h2⟩;dsimp only at h2;subst h2;exact wpS_bind (yit λu1 e1=>wpS_pure ⟨e.trans e1,rfl⟩)
  ·rintro i ⟨r,l,m⟩ u _ _ ⟨e,h2,h3⟩;dsimp only at h2 h3;refine S_if (λ_=>wpS_pure ⟨e,rfl⟩) λc1=>?_
   dsimp only at c1;refine wpS_bind (ycI hA hk gs e (by ac_rfl) (by ac_rfl) λc=>?_);cases c
   ·exact wpS_pure ⟨e,rfl,h3⟩
   ·exact wpS_pure ⟨e,rfl,(by ac_rfl)⟩
end
end L2
end
section
namespace L2
open PySem PySem.W PySem.Calls PyProof.Rows
def zbi:List (Nat×Nat×Nat)->Nat->Nat->Prop
 | [],a,b=>a=b
 |x::r,a,b=>x.1=a/\1<=x.2.1/\zbi r (a+x.2.1) b
theorem zb9:∀ {u v:List (Nat×Nat×Nat)} {a b:Nat},zbi (u++v) a b↔∃c,zbi u a c/\zbi v c b
 | [],v,a,b=>⟨λh=>⟨a,rfl,h⟩,λ⟨c,e,h⟩=>by cases e;exact h⟩
 |x::u,v,a,b=>by
  show(x.1=a/\1<=x.2.1/\zbi (u++v) (a+x.2.1) b)↔∃c,(x.1=a/\1<=x.2.1/\zbi u (a+x.2.1) c)/\zbi v c b;rw[zb9];exact⟨λ⟨h1,h2,c,h3,h4⟩=>⟨c,⟨h1,h2,h3⟩,h4⟩,λ⟨c,⟨h1,h2,h3⟩,h4⟩=>⟨h1,h2,c,h3,h4⟩⟩
theorem ze9:∀ {u:List (Nat×Nat×Nat)} {a b:Nat},zbi u a b->a<=b
 | [],a,b,h=>Nat.le_of_eq h
 |x::u,a,b,⟨_,_,h⟩=>Nat.le_trans (Nat.le_add_right _ _) (ze9 h)
theorem zhl{α:Type}{l u v:List α}{x y z:α}{n:Nat}(e:l=u++x::y::v)(h:u.length=n):(l.set n z).eraseIdx (n+1)=u++z::v:=by
 subst e h;rw[List.set_append_right _ _ (Nat.le_refl _),List.eraseIdx_append_of_length_le (Nat.le_succ _),Nat.sub_self,show u.length+1-u.length=1 by lia];rfl
theorem yfJ{p:Array (Nat×Nat×Nat)}{i b:Nat}(h:zbi p.toList 0 b)(hi:i+1<p.size):∃sa na pa sb nb pb,p[i]?=some (sa,na,pa)/\p[i+1]?=some (sb,nb,pb)/\sb=sa+na/\1<=na/\1<=nb/\sb+nb<=b/\zbi ((p.setIfInBounds i (sa,na+nb,pa)).eraseIdxIfInBounds (i+1)).toList 0 b:=by
 have hl:i+1<p.toList.length:=by rw[Array.length_toList];exact hi
 have h1:p.toList=p.toList.take i++p.toList[i]::p.toList[i+1]::p.toList.drop (i+1+1):=by
  rw[<-List.drop_eq_getElem_cons hl,<-List.drop_eq_getElem_cons (by lia),List.take_append_drop]
 rw[h1,zb9]at h;obtain⟨c,h2,h3,h4,h5,h6,h7⟩:=h;have e0:p[i]?=some p.toList[i]:=by
  rw[Array.getElem?_eq_getElem (by lia)];rfl
 have e1:p[i+1]?=some p.toList[i+1]:=by
  rw[Array.getElem?_eq_getElem hi];rfl
 refine⟨p.toList[i].1,p.toList[i].2.1,p.toList[i].2.2,p.toList[i+1].1,p.toList[i+1].2.1,p.toList[i+1].2.2,e0,e1,by rw[h5,h3],h4,h6,?_,?_⟩
 ·have:=ze9 h7
  lia
 ·rw[Array.toList_eraseIdxIfInBounds,Array.toList_setIfInBounds];have hlt:(p.toList.take i).length=i:=by rw[List.length_take];lia
  rw[zhl h1 hlt,zb9];exact⟨c,h2,h3,by dsimp only;lia,by dsimp only;rw[<-Nat.add_assoc];exact h7⟩
theorem zdV{f:Nat×Nat×Nat->Nat×Nat×Nat}(hf:∀x,(f x).1=x.1/\(f x).2.1=x.2.1):∀ {l:List (Nat×Nat×Nat)} {i a b:Nat},zbi l a b->zbi (l.modify i f) a b
 | [],i,a,b,h=>by cases i <;> exact h
 |x::l,0,a,b,h=>by
  show(f x).1=a/\1<=(f x).2.1/\zbi l (a+(f x).2.1) b;rw[(hf x).1,(hf x).2];exact h
 |x::l,i+1,a,b,⟨h1,h2,h3⟩=>⟨h1,h2,zdV hf h3⟩
theorem zdi{p:Array (Nat×Nat×Nat)}{a n k:Nat}(h:zbi p.toList 0 a)(hn:1<=n):zbi (p.push (a,n,k)).toList 0 (a+n):=by
 rw[Array.toList_push,zb9];exact⟨a,h,rfl,hn,rfl⟩
theorem yeZ{α:Type}(q:Nat):∀(l:List α) (k:Nat) (a:Array α),q+k+l.length<=a.size->((l.zipIdx k).foldl (λa x=>a.setIfInBounds (q+x.2) x.1) a).toList=a.toList.take (q+k)++l++a.toList.drop (q+k+l.length)
 | [],k,a,_=>by simp
 |x::l,k,a,h=>by
  rw[List.length_cons]at h;rw[List.zipIdx_cons,List.foldl_cons,yeZ q l (k+1) _ (by rw[Array.size_setIfInBounds];lia),Array.toList_setIfInBounds];have hl:q+k<a.toList.length:=by rw[Array.length_toList];lia
  rw[show q+(k+1)=q+k+1 by lia,List.length_cons,show q+k+1+l.length=q+k+(l.length+1) by lia];rw[List.take_set,List.drop_set_of_lt (by lia),List.take_succ_eq_append_getElem hl,List.set_append_right _ _ (by rw[List.length_take];lia),List.length_take];rw[show q+k-min (q+k) a.toList.length=0 by lia];simp
theorem ygS{α:Type}{a:Array α}{i j k:Nat}{m:Array α}(h1:i<=j)(h2:j<=k)(h3:k<=a.size)(h:m.toList.Perm ((a.extract i j).toList++(a.extract j k).toList)):((m.toList.zipIdx).foldl (λa x=>a.setIfInBounds (i+x.2) x.1) a).toList.Perm a.toList:=by
 have hl:m.toList.length=k-i:=by
  rw[h.length_eq,List.length_append,Array.length_toList,Array.length_toList,Array.size_extract,Array.size_extract];lia
 rw[yeZ i m.toList 0 a (by lia),hl,show i+0+(k-i)=k by lia,Nat.add_zero];have e:a.toList=a.toList.take i++((a.extract i j).toList++(a.extract j k).toList)++a.toList.drop k:=by
  rw[<-List.append_assoc,<-ze3 a h1,<-ze3 a h2,List.take_append_drop]
 conv=>rhs;rw[e]
 exact List.Perm.append_right _ (List.Perm.append_left _ h)
section
variable {prog:Program} {w:World} {A:Around} {E:Value->Shared->Prop} {s:Shared} {κ:SortKind}
variable {g:Keyed->Prop} (hA:Answ prog w A s κ g)
include hA
omit hA in
theorem zhp{st x:SortSt}{Q:PUnit->SortSt->Prop}(h:Q ⟨⟩ x):wpS (model prog w) A E s (set x:StateT SortSt Sem PUnit) Q st:=by
 unfold wpS;rw[StateT.run_set];exact wpAny_pure ⟨rfl,h⟩
theorem ygq{st:SortSt}{i b:Nat}{Q:Bool->SortSt->Prop}(hk:kindOf st=κ)(gs:∀x∈(arrOf st).toList,g x)(hf:failedOf st=none)(hp:zbi (pendingOf st).toList 0 b)(hb:b<=(arrOf st).size)(hi:i+1<(pendingOf st).size)
  (h:∀st':SortSt,kindOf st'=κ->failedOf st'=none->(arrOf st').toList.Perm (arrOf st).toList->zbi (pendingOf st').toList 0 b->Q true st'):wpS (model prog w) A E s (mergeAt' i) Q st:=by
 obtain⟨sa,na,pa,sb,nb,pb,e0,e1,rfl,h1,h2,h3,h4⟩:=yfJ hp hi;refine wpS_bind (wpS_get ?_);dsimp only;rw[show(pendingOf st)[i]?=_ from e0,show(pendingOf st)[i+1]?=_ from e1];refine wpS_bind (zhp ?_);have r1:sa+na<(arrOf st).size:=by lia
 refine wpS_bind (yaA r1 ?_);refine wpS_bind (zbH hA hk (gd gs r1) gs (base:=sa) (n:=na) (hint:=0) (Nat.le_of_lt r1) h1 λk hk1=>?_);refine S_if (λ_=>wpS_pure (h _ hk hf (.refl _) h4)) λc1=>?_
 have c1':=nbeq c1;have r2:sa+k+(na-k)-1<(arrOf st).size:=by lia
 refine wpS_bind (yaA r2 ?_);refine wpS_bind (zbH hA hk (gd gs r2) gs (base:=sa+na) (n:=nb) (hint:=nb-1) (Nat.le_trans h3 hb) (by lia) λk2 hk2=>?_);refine S_if (λ_=>wpS_pure (h _ hk hf (.refl _) h4)) λc2=>?_
 have c2':=nbeq c2;have gx:∀i j,∀x∈((arrOf st).extract i j).toList,g x:=λi j x hx=>gs x (by
  rw[Array.toList_extract,List.extract_eq_take_drop]at hx;exact List.mem_of_mem_drop (List.mem_of_mem_take hx))
 have x1:0<((arrOf st).extract (sa+k) (sa+na)).size:=by rw[Array.size_extract];lia
 have x2:0<((arrOf st).extract (sa+na) (sa+na+k2)).size:=by rw[Array.size_extract];lia
 have fin:∀(r:Array Keyed) (st1:SortSt),r.toList.Perm (((arrOf st).extract (sa+k) (sa+na)).toList++((arrOf st).extract (sa+na) (sa+na+k2)).toList)->Sm (SortSt.mk' (kindOf st) (arrOf st) (((pendingOf st).setIfInBounds i (sa,na+nb,pa)).eraseIdxIfInBounds (i+1)) (gallopOf st) (failedOf st)) st1->wpS (model prog w) A E s (pure (failedOf st1).isNone) Q (SortSt.mk' (kindOf st1) ((r.toList.zipIdx).foldl (λa x=>a.setIfInBounds (sa+k+x.2) x.1) (arrOf st1)) (pendingOf st1) (gallopOf st1) (failedOf st1)):=by
  intro r st1 hr ⟨f1,f2,f3,f4⟩;rw[show failedOf st1=none from f4.trans hf];refine wpS_pure (h _ (f1.trans hk) rfl ?_ ?_)
  ·show(List.foldl _ (arrOf st1) _).toList.Perm _;rw[show arrOf st1=arrOf st from f2];exact ygS (by lia) (by lia) (by lia) hr
  ·show zbi (pendingOf st1).toList 0 b;rw[f3];exact h4
 refine S_if (λ_=>?_) λ_=>?_
 ·refine wpS_bind (yfM hA hk (gx _ _) (gx _ _) x1 x2 λr st1 hr e=>?_);refine wpS_bind (wpS_modify ?_);refine wpS_bind (wpS_get ?_);exact fin r st1 hr e
 ·refine wpS_bind (zfX hA hk (gx _ _) (gx _ _) x1 x2 λr st1 hr e=>?_);refine wpS_bind (wpS_modify ?_);refine wpS_bind (wpS_get ?_);exact fin r st1 hr e
omit hA in
theorem yic{c:Prop}[Decidable c]{n:Nat}(h:¬ n<=1):(if c then n-2-1 else n-2)+1<n:=by
 split <;> lia
noncomputable def Rn(κ:SortKind)(st0:SortSt)(b:Nat)(st:SortSt):Prop:=kindOf st=κ/\failedOf st=none/\(arrOf st).toList.Perm (arrOf st0).toList/\zbi (pendingOf st).toList 0 b/\b<=(arrOf st0).size
theorem zil{st:SortSt}{Q:Unit->SortSt->Prop}(hk:kindOf st=κ)(gs:∀x∈(arrOf st).toList,g x)(hf:failedOf st=none)(hp:pendingOf st = #[])
  (h:∀st':SortSt,failedOf st'=none->(arrOf st').toList.Perm (arrOf st).toList->Q () st'):wpS (model prog w) A E s sortRuns' Q st:=by
 have merge:∀(b i:Nat) (u:SortSt) {Q:Bool->SortSt->Prop},Rn κ st b u->i+1<(pendingOf u).size->(∀v,Rn κ st b v->Q true v)->wpS (model prog w) A E s (mergeAt' i) Q u:=λb i u Q R hi k=>ygq hA R.1 (λx hx=>gs x (R.2.2.1.mem_iff.mp hx)) R.2.1 R.2.2.2.1 (by
   have:=R.2.2.1.length_eq;rw[Array.length_toList,Array.length_toList]at this;rw[this];exact R.2.2.2.2) hi λv h1 h2 h3 h4=>k v ⟨h1,h2,h3.trans R.2.2.1,h4,R.2.2.2.2⟩
 refine wpS_bind (wpS_get ?_);refine wpS_bind (ybQ (λ_ z u=>z.1=none/\Rn κ st z.2 u) (λz u=>z.1=none/\Rn κ st z.2 u) ⟨rfl,hk,hf,.refl _,?_,Nat.zero_le _⟩ (λ_ _ x=>x) ?_ ?_)
 ·rw[hp];rfl
 ·rintro⟨r,lo⟩ u ⟨e1,R⟩;dsimp only at e1;subst e1;refine wpS_bind (ybQ (λ_ z u=>z.1=none/\Rn κ st lo u) (λz u=>z.1=none/\Rn κ st lo u) ⟨rfl,R⟩ (λ_ _ x=>x) ?_ ?_)
  ·rintro⟨r,z⟩ u ⟨e1,R1,R2,R3,R4,R5⟩;dsimp only at e1;subst e1;exact wpS_pure (h _ R2 R3)
  ·rintro i ⟨r,z⟩ u _ _ ⟨e1,R⟩;refine wpS_bind (wpS_get ?_);refine S_if (λ_=>wpS_pure ⟨rfl,R⟩) λc1=>?_
   have c2:¬ (pendingOf u).size<=1:=c1;refine wpS_bind (merge _ _ _ R ?_ (λu R=>wpS_pure ⟨rfl,R⟩));exact yic c2
 ·rintro i ⟨r,lo⟩ u _ _ ⟨e1,R1,R2,R3,R4,R5⟩;dsimp only at R4 R5;refine S_if (λ_=>wpS_pure ⟨rfl,R1,R2,R3,R4,R5⟩) λc1=>?_
  dsimp only at c1;have sz:(arrOf u).size=(arrOf st).size:=by
   have:=R3.length_eq
   rwa [Array.length_toList,Array.length_toList]at this
  refine wpS_bind (zhB hA R1 (λx hx=>gs x (R3.mem_iff.mp hx)) ?_ ?_ λn u1 n1 n2 e=>?_)
  ·show lo+((arrOf st).size-lo)<=(arrOf u).size;have c2:¬ lo>=(arrOf st).size:=c1
   lia
  ·show 1<=(arrOf st).size-lo;have c2:¬ lo>=(arrOf st).size:=c1
   lia
  have n3:n<=(arrOf st).size-lo:=n2;have c3:¬ lo>=(arrOf st).size:=c1;have U:Rn κ st lo u1:=⟨e.1.trans R1,e.2.2.1.trans R2,e.2.2.2.trans R3,by rw[e.2.1];exact R4,R5⟩
  refine S_if (λc2=>?_) λ_=>?_
  refine wpS_bind (wpS_lift (wpAny_rule ⟨rfl,?_⟩));refine wpS_bind (ziI hA U.1 (λx hx=>gs x (U.2.2.1.mem_iff.mp hx)) ?_ λv e2=>?_)
  ·rw[e.size,sz];show lo+min ((arrOf st).size-lo) _<=_
   lia
  have V:Rn κ st lo v:=⟨e2.1.trans U.1,e2.2.2.1.trans U.2.1,e2.2.2.2.trans U.2.2.1,by rw[e2.2.1];exact U.2.2.2.1,R5⟩
  have m1:1<=min ((arrOf st).size-lo) (minRun' (arrOf st).size (arrOf st).size 0):=by
   have c2':n<minRun' (arrOf st).size (arrOf st).size 0:=c2
   lia
  have m2:lo+min ((arrOf st).size-lo) (minRun' (arrOf st).size (arrOf st).size 0)<=(arrOf st).size:=by lia
  rotate_left
  obtain⟨v,hv⟩:∃v,v=u1:=⟨_,rfl⟩
  rw[<-hv]at U ⊢;have V:=U;have m1:=n1;have m2:lo+n<=(arrOf st).size:=by lia
  all_goals
   refine wpS_bind (wpS_get ?_);generalize hb:(pendingOf v).back?=o;rcases o with _ |⟨s1,n1,p1⟩
   ·refine wpS_bind (wpS_modify (wpS_pure ⟨rfl,V.1,V.2.1,V.2.2.1,zdi V.2.2.2.1 m1,m2⟩))
   ·refine wpS_bind (ybQ (λ_ z u=>z.1=none/\Rn κ st lo u) (λz u=>z.1=none/\Rn κ st lo u) ⟨rfl,V⟩ (λ_ _ x=>x) ?_ ?_)
    ·rintro⟨r,z⟩ u ⟨e1,V⟩;dsimp only at e1;subst e1;refine wpS_bind (wpS_modify ?_);refine wpS_bind (wpS_modify (wpS_pure ⟨rfl,V.1,V.2.1,V.2.2.1,zdi ?_ m1,m2⟩));show zbi ((pendingOf u).modify _ _).toList 0 lo;rw[Array.toList_modify];refine zdV ?_ V.2.2.2.1
     exactλx=>⟨rfl,rfl⟩
    ·rintro i ⟨r,z⟩ u _ _ ⟨e1,V⟩;refine wpS_bind (wpS_get ?_);dsimp only;generalize hm:(if (pendingOf u).size>1 then(pendingOf u)[(pendingOf u).size-2]? else none)=o;rcases o with _ |⟨s2,n2,p2⟩
     ·exact wpS_pure ⟨rfl,V⟩
     ·have hs:(pendingOf u).size>1:=Decidable.byContradiction λc=>by rw[if_neg c]at hm;cases hm
      exact S_if (λ_=>wpS_pure ⟨rfl,V⟩) λ_=>wpS_bind (merge _ _ _ V (show(pendingOf u).size-2+1<(pendingOf u).size by lia) λu V=>wpS_pure ⟨rfl,V⟩)
end
end L2
end
section
namespace L2
open PySem PySem.Spec PySem.W PySem.Calls PyProof.Rows
section
variable {prog:Program} {w:World} {A:Around} {E:Value->Shared->Prop} {s:Shared} {vs:List Value}
def zbh(h h':Heap):Prop:=∀(b:Addr) (o:Obj),h.get? b=some o->h'.get? b=some o
theorem zbh.trans(x:zbh a b)(y:zbh b c):zbh a c:=λb o e=>y b o (x b o e)
theorem zbh.push(h:Heap)(o:Obj):zbh h (h.push o):=λ_ _ e=>Heap.get?_push_of_some _ e
theorem yeN{α:Type}(vs:List α):(vs.toArray.zip vs.toArray).toList=vs.map λv=>(v,v):=by
 rw[Array.toList_zip];show vs.zip vs=_
 induction vs with
 |nil=>rfl
 |cons x l ih=>rw[List.zip_cons_cons,ih];rfl
theorem zdv{h₀:Heap}{n:Nat}{P:PySem.Fin->Shared->Prop}(ho:s.heap.get? a=some (seqObj "list" vs.toArray n))(hz:vs.length<=sizeLine)(k0:zbh h₀ s.heap)(ha:h₀.get? a=none)
  (ask:∀h':Heap,zbh h₀ h'->2<=vs.length->wpAny (model prog w) A (keyKind' vs.toArray) (λκ s'=>s'={ s with heap:=h' }/\∃g:Keyed->Prop,(∀v∈vs,g (v,v))/\Answ prog w A { s with heap:=h' } κ g) (λ_ _=>False) { s with heap:=h' })
  (fin:∀(es:List Value) (h':Heap) (c:Nat),zbh h₀ h'->h'.get? a=some (seqObj "list" es.toArray c)->es.Perm vs->P (.done (.ret .none)) { s with heap:=h' }) :
  wpAny (model prog w) A (Builtin.«list.sort» ⟨[.ref a],[]⟩) P E s:=by
 have hs:vs.toArray.size<=sizeLine:=by rw[List.size_toArray];exact hz
 obtain⟨c1,o1⟩:∃c,(s.heap.update a (Obj.mapSeq λ_=>(#[]:Array Value))).get? a=some (seqObj "list" #[] c):=⟨_,get?_update_seq ho λ_=>#[]⟩
 have ku:∀(h:Heap) (f:Obj->Obj),zbh h₀ h->zbh h₀ (h.update a f):=λh f k b o e=>by
  rw[Heap.get?_update_ne _ _ _ _ (λq=>by rw[q,ha]at e;cases e)];exact k b o e
 rw[list_sort_plain];refine wpAny_bind (listItems_at ho rfl (wpAny_bind (listUpdate_at ho rfl ?_ hs (Nat.zero_le _))));refine wpAny_bind (seqEpoch_at o1 rfl (wpAny_bind (wpAny_newTuple ?_ hz)));refine wpAny_bind (wpAny_newList (wpAny_holding ?_) (Nat.zero_le _));obtain⟨h1,e1⟩:∃h1,h1=((s.heap.update a (Obj.mapSeq λ_=>(#[]:Array Value))).push (seqObj "tuple" vs.toArray 0)).push (seqObj "list" #[] 0):=⟨_,rfl⟩
 have k1:zbh h₀ h1:=by rw[e1];exact((ku _ _ k0).trans (zbh.push _ _)).trans (zbh.push _ _)
 have o2:h1.get? a=some (seqObj "list" #[] c1):=by rw[e1];exact zbh.push _ _ _ _ (zbh.push _ _ _ _ o1)
 have last:∀ {out:Array Value},out.toList.Perm vs->P (.done (.ret .none)) { s with heap:=h1.update a (Obj.mapSeq λ_=>out) }:=λ{out} hp=>by
  refine fin out.toList _ _ (ku _ _ k1) (get?_update_seq o2 λ_=>out) hp
 show wpAny (model prog w) A _ P E { s with heap:=((s.heap.update a (Obj.mapSeq λ_=>(#[]:Array Value))).push (seqObj "tuple" vs.toArray 0)).push (seqObj "list" #[] 0) };rw[<-e1];have zp:∀ {st:SortSt},(arrOf st).toList.Perm ((vs.toArray.zip vs.toArray).toList)->((arrOf st).map (·.2)).toList.Perm vs:=λ{st} hp=>by
  have:=hp.map (·.2);rw[yeN,List.map_map]at this;rw[Array.toList_map];exact this.trans (by show((vs.map id).Perm vs);rw[List.map_id])
 have zs:∀ {out:Array Value},out.toList.Perm vs->out.size<=sizeLine+1:=λhp=>by
  have:=hp.length_eq;rw[Array.length_toList]at this
  lia
 dsimp only;by_cases c2:vs.toArray.size<2
 ·rw[if_pos c2,if_pos c2];refine wpAny_bind (wpAny_pure (wpAny_bind ?_));rw[StateT.run_pure];refine wpAny_pure ?_;have hp:=zp (st:=SortSt.mk' general' (vs.toArray.zip vs.toArray) #[] 7 none) (.refl _);refine wpAny_bind (seqEpoch_at o2 rfl (wpAny_bind (listUpdate_at o2 rfl ?_ (Nat.zero_le _) (zs hp))));simp only[bne_self_eq_false,Bool.false_eq_true,if_false];exact wpAny_pure (last hp)
 ·rw[if_neg c2,if_neg c2];rw[List.size_toArray]at c2;refine wpAny_bind (wpAny_mono (ask h1 k1 (by lia)) (λκ s' hk=>?_) λ_ _ x=>x.elim);obtain⟨rfl,g,hg,hA⟩:=hk;refine wpAny_bind (wpAny_mono (zil (E:=λ_ _=>False) (st:=SortSt.mk' κ (vs.toArray.zip vs.toArray) #[] 7 none) (Q:=λ_ st=>failedOf st=none/\(arrOf st).toList.Perm (vs.toArray.zip vs.toArray).toList) hA rfl ?_ rfl rfl λst h1 h2=>⟨h1,h2⟩) ?_ λ_ _ x=>x.elim)
  ·intro x hx;rw[show arrOf (SortSt.mk' κ (vs.toArray.zip vs.toArray) #[] 7 none)=vs.toArray.zip vs.toArray from rfl,yeN]at hx;obtain⟨v,hv,rfl⟩:=List.mem_map.mp hx;exact hg v hv
  rintro⟨⟨⟩,st⟩ s' ⟨rfl,hf,hp⟩;have hp:=zp hp;dsimp only;refine wpAny_bind (seqEpoch_at o2 rfl (wpAny_bind (listUpdate_at o2 rfl ?_ (Nat.zero_le _) (zs hp))));rw[show failedOf st=none from hf];simp only[bne_self_eq_false,Bool.false_eq_true,if_false];exact wpAny_pure (last hp)
theorem zfe(hl:s.heap.IsList l vs.toArray)(hz:vs.length<=sizeLine)
  (ask:∀h':Heap,zbh s.heap h'->2<=vs.length->wpAny (model prog w) A.in1.in1 (keyKind' vs.toArray) (λκ s'=>s'={ s with heap:=h' }/\∃g:Keyed->Prop,(∀v∈vs,g (v,v))/\Answ prog w A.in1.in1 { s with heap:=h' } κ g) (λ_ _=>False) { s with heap:=h' })
  (fin:∀(D:Addr) (es:List Value) (h':Heap) (c:Nat),s.heap.objs.size<=D->zbh s.heap h'->h'.get? D=some (seqObj "list" es.toArray c)->es.Perm vs->Q (.ref D) { s with heap:=h' }) :
  wpAny (model prog w) A (call (.builtin "sorted") [.ref l]) Q E s:=by
 apply call_function_entry kind_sorted plain_sorted entry_sorted (args_sorted1 _);refine wpAny_bind (m:=checkCount "sorted" 1 1 _) (wpAny_pure (wpAny_bind (collect_list hl (wpAny_bind (wpAny_newList ?_ hz)) hz)));obtain⟨h1,e1⟩:∃h1,h1=(s.heap.push (seqObj "list" #[] 0)).update s.heap.objs.size (Obj.mapSeq (·++vs.toArray)):=⟨_,rfl⟩
 have z1:h1.objs.size=s.heap.objs.size+1:=by rw[e1,Heap.size_update,size_push']
 have k1:zbh s.heap h1:=λb o e=>by
  rw[e1,Heap.get?_update_ne _ _ _ _ (Nat.ne_of_lt (Heap.lt_size e)),Heap.get?_push_ne _ _ _ (Nat.ne_of_lt (Heap.lt_size e))];exact e
 show wpAny _ _ _ _ _ { s with heap:=((s.heap.push (seqObj "list" #[] 0)).update s.heap.objs.size (Obj.mapSeq (·++vs.toArray))).push (seqObj "list" vs.toArray 0) };rw[<-e1];have o2:(h1.push (seqObj "list" vs.toArray 0)).get? h1.objs.size=some (seqObj "list" vs.toArray 0):=Heap.get?_push_size _ rfl;refine wpAny_bind (wpAny_holding (wpAny_call_entry slot_list_sort ⟨_,o2,rfl⟩ entry_list_sort ?_ (args_list_sort _)));have z2:s.heap.objs.size<=h1.objs.size:=by lia
 refine zdv (s:={ s with heap:=h1.push (seqObj "list" vs.toArray 0) }) (h₀:=s.heap) o2 hz (k1.trans (zbh.push _ _)) (Heap.get?_none_of_le z2) (λh' k=>ask h' k) λes h' c k e p=>⟨_,rfl,wpAny_pure ⟨_,rfl,fin _ es h' c z2 k e p⟩⟩
end
theorem yh7:∀ {ds:List Addr} {us:List Value},Vals (ds.map V.ref) us->us=ds.map Value.ref
 | [],_,.nil=>rfl
 |d::ds,_,.cons r t=>by cases r;rw[yh7 t];rfl
theorem yig:∀ {ds:List Addr},Vals (ds.map V.ref) (ds.map Value.ref)
 | []=>.nil
 |d::ds=>.cons rfl yig
theorem zb4:∀ {es ds:List Value},es.Perm ds->∀ {l:List Addr},ds=l.map Value.ref->∃m:List Addr,es=m.map Value.ref/\m.Perm l
 |_,_,.nil,l,e=>by cases l with|nil=>exact⟨[],rfl,.nil⟩|cons _ _=>cases e
 |_,_,.cons x p,l,e=>by
  cases l with
  |nil=>cases e
  |cons y l=>
   injection e with e1 e2;obtain⟨m,h1,h2⟩:=zb4 p e2;exact⟨y::m,by rw[e1,h1];rfl,h2.cons _⟩
 |_,_,.swap x y r,l,e=>by
  rcases l with _ |⟨u,_ |⟨v,l⟩⟩
  ·cases e
  ·cases e
  ·injection e with e1 e2;injection e2 with e2 e3;exact⟨v::u::l,by rw[e1,e2,e3];rfl,.swap ..⟩
 |_,_,.trans p q,l,e=>by
  obtain⟨m,h1,h2⟩:=zb4 q e;obtain⟨m',h3,h4⟩:=zb4 p h1;exact⟨m',h3,h4.trans h2⟩
def IntV(v:Value):Prop:=Ex2 λi t=>v = .int i t
theorem zfy{b fin:Bool}{Q:Bool->Shared->Prop}(q:∀c,Q c s):∀(l:List (Value×Value)) (i:Nat),(∀p∈l,IntV p.1/\IntV p.2)->KatLex prog w A b fin Q l i s
 | [],_,_=>q _
 |(x,y)::l,i,h=>by
  obtain⟨⟨a,t,rfl⟩,⟨c,u,rfl⟩⟩:=h _ (List.mem_cons_self ..);refine kat_cons (wpAny_eqBool_int ?_);refine kat_go (λ_=>kat_yes (zfy q l (i+1) λp hp=>h p (List.mem_cons_of_mem _ hp))) (λ_=>kat_no ?_);cases (b&&i==0)
  ·exact kat_one _ _ (P.lt_int (q _))
  ·exact oneLt_int (q _)
section
variable {X:Cx}
theorem zgI{K:PySem.W.Frag}(h:X.K=K)(hl:PE X l tl):PI X tg l (zhZ K tl):=h ▸ zaO hl
noncomputable def ziq(K:PySem.W.Frag):List V->Hp->VK->Prop:=λxs H Q=>Ex2 λ(a:Addr) (ds:List Addr)=>xs=[.ref a]/\SqL K H a (ds.map V.ref)/\(∀d∈ds,∃rs:List Int,0<rs.length/\SqT K H d (rs.map V.int))/\
 ∀(l:Addr) (es:List Addr),H l=none->es.Perm ds->Q (.ref l) (upd H l (.lst (es.map V.ref)))
theorem zdW:∀ {ns:List Int} {us:List Value},Vals (ns.map V.int) us->∀v∈us,IntV v
 | [],_,.nil=>λv hv=>by cases hv
 |n::ns,_,.cons r t=>λv hv=>by
  rcases List.mem_cons.mp hv with rfl|hv
  ·obtain⟨t,e⟩:=r;exact⟨n,t,e⟩
  ·exact zdW t v hv
theorem ydX:ya4 X (.builtin "sorted") (ziq X.K):=by
 intro pins s σ H xs us Q I r h;obtain⟨a,ds,rfl,ha,hd,q⟩:=h;obtain⟨u,rfl,rx⟩:=zcg r;cases rx;obtain⟨its,r1,p1,z1⟩:=I.list ha;have e:=yh7 r1;subst e;rw[List.length_map]at z1;refine zfe p1.isList (by rw[List.length_map];exact z1) (λh' k h2=>?_) λD es h' c hD k e p=>?_
 ·have hT:∀d∈ds,Ex3 λ(o:Obj) (us:List Value) (n:Nat)=>h'.get? d=some o/\o.cls = .type "tuple"/\o.data = .seq us.toArray n/\0<us.length/\∀v∈us,IntV v:=λd hdd=>by
   obtain⟨rs,h0,hs⟩:=hd d hdd;obtain⟨us,rv,⟨o,e,c,n,dt⟩,_⟩:=I.tuple hs;have hl:=rv.length;rw[List.length_map]at hl;exact⟨o,us,n,k d o e,c,dt,by lia,zdW rv⟩
  have hK:∀l:List Addr,(∀d∈l,d∈ds)->∃fs:List Value,KatTups h' (l.map Value.ref) fs/\fs.length=l.length/\∀v∈fs,IntV v:=by
   intro l
   induction l with
   |nil=>exactλ_=>⟨[],trivial,rfl,λv hv=>by cases hv⟩
   |cons d l ih=>
    intro hl;obtain⟨fs,k1,k2,k3⟩:=ih λx hx=>hl x (List.mem_cons_of_mem _ hx)
    obtain⟨o,us,n,e,c,dt,h0,hv⟩:=hT d (hl d (List.mem_cons_self ..));rcases us with _ |⟨f,us⟩
    ·cases h0
    ·exact⟨f::fs,KatTups.cons e c dt (by simp) k1,by simp[k2],λv hv'=>by
      rcases List.mem_cons.mp hv' with rfl|hv'
      ·exact hv _ (List.mem_cons_self ..)
      ·exact k3 v hv'⟩
  obtain⟨fs,k1,k2,k3⟩:=hK ds λ_ h=>h
  rw[List.length_map]at h2;refine kat_kind (T:=.type "int") k1 (by lia) (λv hv=>?_) rfl ⟨rfl,λx=>∃d∈ds,x.1 = .ref d,λv hv=>?_,?_⟩
  ·obtain⟨i,t,rfl⟩:=k3 v hv;exact Looks.of_pure rfl
  ·obtain⟨d,hd,e⟩:=List.mem_map.mp hv;exact⟨d,hd,e.symm⟩
  ·rintro⟨x,x'⟩ ⟨y,y'⟩ C ⟨d1,m1,e1⟩ ⟨d2,m2,e2⟩ hC;dsimp only at e1 e2;subst e1 e2;obtain⟨o1,us1,n1,e1,c1,q1,_,v1⟩:=hT d1 m1;obtain⟨o2,us2,n2,e2,c2,q2,_,v2⟩:=hT d2 m2;refine kat_lt e1 q1 e2 q2 (zfy (λc=>hC c) _ _ λp hp=>?_);obtain⟨x,y⟩:=p;have:=List.of_mem_zip hp;exact⟨v1 _ (by simpa using this.1),v2 _ (by simpa using this.2)⟩
 ·obtain⟨m,rfl,pm⟩:=zb4 p rfl;refine⟨.ref D,_,I.laid (t':=s.toks) (o:=.lst (m.map V.ref)) k hD ⟨?_,m.map Value.ref,c,yig,e⟩,rfl,q _ _ (I.hok.fresh hD) pm⟩;rw[List.length_map,pm.length_eq];exact z1
end
end L2
end
section
namespace L2
open PySem PySem.Spec PySem.W PySem.Calls PyProof.Rows
section
variable {X:Cx}
noncomputable def yiG(K:PySem.W.Frag):V->V->Hp->VK->Prop:=λx y H Q=>Ex4 λp xs i v=>x = .ref p/\y = .int i/\0<=i/\SqL K H p xs/\atI xs i=some v/\Q v H
theorem ygL:PGet X (yiG X.K):=by
 intro pins s σ H x y v u Q I rx ry h;obtain⟨p,xs,i,z,rfl,rfl,h0,hq,he,q⟩:=h;cases rx;obtain⟨t,rfl⟩:=ry;obtain⟨its,r,pl,hz⟩:=I.list hq;obtain⟨j,h1,h2,h3,h4,h5⟩:=yeG he;obtain⟨w,ew,rw'⟩:=r.get h2;have hl:=r.length;have hn:=zdR;have hj:i.toNat=j:=by
  rw[seqIndex_of h0 h5]at h1;exact Option.some.inj h1
 exact wpAny_getItem_list pl.isList h0 (by lia) (by rw[hj];simpa using ew) ⟨z,H,I,rw',q⟩
end
end L2
end
section
namespace L2
open PySem PySem.Spec PyProof.Rows
section
variable {X:Cx}
theorem ycD(ns:List Int):∀k,k<=ns.length->preSum (λi=>ns.getD i 0) k=(ns.take k).sum
 |0,_=>by simp[preSum]
 |k+1,h=>by
  show preSum (λi=>ns.getD i 0) k+ns.getD k 0=_;rw[ycD ns k (by lia),List.take_succ_eq_append_getElem (by lia),List.sum_append];simp[List.getD,show k<ns.length by lia]
end
end L2
end
section
namespace L2
open PySem PySem.Spec PyProof.Rows
section
variable {X:Cx}
noncomputable def yix(K:PySem.W.Frag):List V->Hp->VK->Prop:=λxs H Q=>Ex2 λ(a:Addr) (ns:List Int)=>xs=[.ref a]/\SqT K H a (ns.map V.int)/\Q (.bl (ns.any λn=>n != 0)) H
theorem yfw(hc:X.calm=true):ya4 X (.builtin "any") (yix X.K):=by
 intro pins s σ H xs us Q I r h;obtain⟨a,ns,rfl,ha,q⟩:=h;obtain⟨u,rfl,rx⟩:=zcg r;cases rx;obtain⟨its,r1,p1,z1⟩:=I.tuple ha;have l1:=r1.length;rw[List.length_map]at l1;refine call_any_walk (wpAny_pyIter_tuple p1 ?_);have hh:X.A.in1.handled=none:=I.ok.hd hc;have ne:a≠s.heap.objs.size:=λz=>by obtain⟨o,e,_⟩:=p1;have l:s.heap.objs.size>=Nat.succ a:=Heap.lt_size e;have z':@Eq Nat a s.heap.objs.size:=z;lia
 refine⟨_,_,_,_,_,_,_,rfl,Walks.tuple hh s.heap.objs.size a ne _,⟨⟨_,Heap.get?_push_size _ rfl,rfl,rfl⟩,zgg p1 λo e=>Heap.get?_push_of_some _ e⟩,ye9 r1,λh' tk k=>?_⟩;have I1:Inv X pins σ H { s with heap:=h',toks:=tk }:=I.kept λb o e=>k b o (by simp only[List.mem_singleton];exact Nat.ne_of_lt (Heap.lt_size e)) (Heap.get?_push_of_some _ e)
 refine⟨.bl _,H,I1,?_,q⟩;show Value.bool _=Value.bool _;congr 1;have:=yfb ns;rw[l1]at this
 simpa using this
noncomputable def yiH(K:PySem.W.Frag):List V->Hp->VK->Prop:=λxs H Q=>Ex2 λ(a:Addr) (ns:List Int)=>xs=[.ref a]/\SqL K H a (ns.map V.int)/\Q (.int ns.sum) H
theorem yge(hc:X.calm=true):ya4 X (.builtin "sum") (yiH X.K):=by
 intro pins s σ H xs us Q I r h;obtain⟨a,ns,rfl,ha,q⟩:=h;obtain⟨u,rfl,rx⟩:=zcg r;cases rx;obtain⟨its,r1,p1,z1⟩:=I.list ha;have l1:=r1.length;rw[List.length_map]at l1;refine call_sum_walkG (wpAny_pyIter_list p1.isList ?_);have hh:X.A.in1.handled=none:=I.ok.hd hc;have ne:a≠s.heap.objs.size:=λz=>by obtain⟨o,n,e,_⟩:=p1;have l:s.heap.objs.size>=Nat.succ a:=Heap.lt_size e;have z':@Eq Nat a s.heap.objs.size:=z;lia
 refine⟨_,_,_,_,_,_,λi=>ns.getD i 0,rfl,Walks.list hh s.heap.objs.size a ne _,⟨⟨_,Heap.get?_push_size _ rfl,rfl,rfl⟩,p1.isList.push _⟩,?_,?_,λh' tk t' k=>?_⟩
 ·intro b hb;have hs:(s.heap.push { cls:=.type "list_iterator",data:=.fields #[.ref a,.int 0 0] }).objs.size=s.heap.objs.size+1:=by simp[Heap.push]
  show b<(s.heap.push { cls:=.type "list_iterator",data:=.fields #[.ref a,.int 0 0] }).objs.size;rw[hs];simp only[List.mem_cons,List.not_mem_nil,or_false]at hb;obtain⟨o,n,e,_⟩:=p1;have l:=Heap.lt_size e;rcases hb with e1|e1
  ·have e2:@Eq Nat b s.heap.objs.size:=e1;lia
  ·have e2:@Eq Nat b a:=e1;have l2:@LT.lt Nat _ a s.heap.objs.size:=l
   lia
 ·intro i v hv;have hv':its[i]?=some v:=by simpa using hv
  have hi:=(List.getElem?_eq_some_iff.mp hv').1;have g1:=Vals.getR r1 i (.int (ns.getD i 0)) v (by rw[List.getElem?_map,List.getElem?_eq_getElem (by lia)];simp[List.getD,show i<ns.length by lia]) hv';obtain⟨t1,rfl⟩:=g1;exact⟨t1,rfl⟩
 ·have I1:Inv X pins σ H { s with heap:=h',toks:=tk }:=I.kept λb o e=>k b o (by simp only[List.mem_singleton];exact Nat.ne_of_lt (Heap.lt_size e)) (Heap.get?_push_of_some _ e)
  have e:preSum (λi=>ns.getD i 0) its.toArray.size=ns.sum:=by
   rw[List.size_toArray,ycD ns _ (by lia),List.take_of_length_le (by lia)]
  rw[e];exact⟨.int _,H,I1,⟨_,rfl⟩,q⟩
end
end L2
end
section
namespace L2
open PySem PyProof.Rows
section
variable {X:Cx}
noncomputable def yhn(K:PySem.W.Frag)(te:TE):TE:=λσ H Q=>te σ H λx H1=>Ex2 λ(a:Addr) (ns:List Int)=>x = .ref a/\SqL K H1 a (ns.map V.int)/\ns.length<4000/\
 ∀(ks:List Int),ks.Nodup->(∀k,k∈ks↔k∈ns)->Q (.int ks.length) H1
theorem zfT(hc:X.calm=true)(hg1:Gl X "len")(hm1:X.mg "len"=none)(hg2:Gl X "set")(hm2:X.mg "set"=none)(he:PE X e te)
  (hs:starEach [e] X.env=[(false,eval e X.env)]:=by rfl) (hs2:starEach [.Call (.Name "set" p2) [e] [] pos2] X.env=[(false,eval (.Call (.Name "set" p2) [e] [] pos2) X.env)]:=by rfl) :
  PE X (.Call (.Name "len" p1) [.Call (.Name "set" p2) [e] [] pos2] [] pos) (yhn X.K te):=by
 intro pins s σ H Q I h;refine wpAny_Call_Name_kw (zbs I hg1 hm1 PySem.boot_len ?_ (by decide) (by decide));refine PyProof.Rows.callWith_builtin1 ?_ hs2 rfl;rw[hs2];show wpAny _ _ (spliced ((false,eval (.Call (.Name "set" p2) [e] [] pos2) X.env)::[])) _ _ s;refine Calls.spliced_cons ?_;refine wpAny_Call_Name_kw (zbs I hg2 hm2 yeK ?_ (by decide) (by decide));refine PyProof.Rows.callWith_type1 ?_ hs rfl;rw[hs];show wpAny _ _ (spliced ((false,eval e X.env)::[])) _ _ s;refine Calls.spliced_cons (thn (he pins s σ H _ I h) λu s1 hq=>?_);obtain⟨x,H1,I1,r1,a,ns,ex,ha,hl,q⟩:=hq;subst ex;cases r1;refine Calls.spliced_nil ?_;obtain⟨its,r2,p2,z2⟩:=I1.list ha;have hlen:=r2.length;rw[List.length_map]at hlen;have hh:=I1.ok.hd hc;refine yfn hh p2.isList (by simpa using zdl r2) (by rw[List.size_toArray];unfold scanBound;lia) λh2 tk2 hS hk=>?_
 refine Calls.spliced_nil ?_;have I2:Inv X pins σ H1 { s1 with heap:=h2,toks:=tk2 }:=I1.more hk;have hsz:its.toArray.size=ns.length:=by rw[List.size_toArray,hlen]
 rw[hsz]at hS;obtain⟨o,es,ep,t,ho,hex,hd,hel,hmem,hb,hf,hn,hG⟩:=hS;have hb':es.size<2^63:=Nat.lt_of_lt_of_le hb (by unfold scanBound;decide);refine call_len_set ho hex hd hf (by lia) ?_;refine⟨.int (firstMet (λi=>ns.getD i 0) ns.length).length,_,I2.redraw rfl rfl rfl,⟨_,by rw[hn]⟩,q _ (zbf _ _) λk=>zea ns k⟩
end
end L2
end
section
namespace My
open PySem L2 Dg
def top(i:Nat):Stmt:=PySem.Challenge.pw_roundwords_k32_wide_counts.main.body.getD i (.Pass ⟨0,0,0,0⟩)
abbrev zbg:Stmt:=top 1
abbrev zcI:Stmt:=top 2
abbrev ybl:Stmt:=top 8
abbrev zga:Stmt:=top 9
abbrev zbp:Stmt:=top 10
abbrev zef:Stmt:=top 11
abbrev zdk:Stmt:=top 12
abbrev zet:Stmt:=top 13
abbrev ybf:Stmt:=top 14
abbrev ygj:Stmt:=top 15
abbrev yee:Stmt:=top 16
abbrev yci:Stmt:=top 17
abbrev ydB:Stmt:=top 19
abbrev yb8:Stmt:=top 21
abbrev ybG:Stmt:=top 23
abbrev ya6:Stmt:=top 24
abbrev ycZ:Stmt:=top 26
abbrev zc2:Stmt:=top 27
abbrev zbP:Stmt:=top 28
abbrev ych:Stmt:=top 29
abbrev ybe:Stmt:=top 32
abbrev yez:Stmt:=top 33
abbrev yfO:Stmt:=top 34
abbrev zci:Stmt:=top 35
abbrev ye2:Stmt:=top 36
abbrev zcE:Stmt:=top 37
abbrev zcr:Stmt:=top 39
abbrev ydz:Stmt:=top 40
abbrev zbD:Stmt:=top 41
abbrev yaW:Stmt:=top 42
abbrev ybC:Stmt:=top 44
abbrev ybP:Stmt:=top 45
abbrev yaX:Stmt:=top 46
abbrev zbq:Stmt:=top 47
abbrev zbm:Stmt:=top 48
abbrev ybb:Stmt:=top 49
abbrev yaP:Stmt:=top 50
abbrev za8:Stmt:=top 51
abbrev ya7:Stmt:=top 52
abbrev ybS:Stmt:=top 53
abbrev zbC:Stmt:=top 54
abbrev ybu:Stmt:=top 55
abbrev ybA:Stmt:=top 56
abbrev zbw:Stmt:=top 57
abbrev zaQ:Stmt:=top 58
abbrev zbu:Stmt:=top 59
abbrev ya9:Stmt:=top 60
abbrev zaU:Stmt:=top 61
abbrev zaS:Stmt:=top 62
abbrev zaT:Stmt:=top 63
abbrev yax:Stmt:=top 64
abbrev zdX:Stmt:=top 65
noncomputable def zh0:List Str:=["range","len","abs","min","max","all","any","isinstance","int","bool","tuple","list","zip","enumerate","repr","dict","reversed","sorted","sum","set","str"]
abbrev Bl(mg:Str->Option Value):Prop:=∀x∈zh0,mg x=none
inductive zdf (K:PySem.W.Frag) (vs:List V) (H:Hp) (Q:VK) (E:XK):Prop
 |mk (a:Addr) (ns:List Int) (c1:vs=[.ref a]) (c2:SqL K H a (ns.map V.int)) (c3:∀H',Q (.bl true) H'):zdf K vs H Q E
noncomputable def DI(K:PySem.W.Frag)(f:Addr)(x:Str)(st:Stmt):Prop:=∃fd:FuncData,Fun K x x st f fd/\PySem.W.nsIn K mainGlobals x=some (some (.ref f))
noncomputable def GG(K:PySem.W.Frag):Prop:=∀ {l:PySem.W.OpenLaw} {w:World} {h:Heap} {mg:Str->Option Value} {fa:Addr} (_:K.In h) (_:h.Ns mainGlobals mg) (_:mg "law"=some (.ref fa)) {f1:Addr} (q1:DI K f1 "number_power" zbg) {f2:Addr} (q2:DI K f2 "choices" zcI) {f3:Addr} (q3:DI K f3 "many_things" ybl) {f4:Addr} (q4:DI K f4 "plus" zga) {f5:Addr} (q5:DI K f5 "digit_times" zbp) {f6:Addr} (q6:DI K f6 "minus" zef) {f7:Addr} (q7:DI K f7 "lifted" zdk) {f8:Addr} (q8:DI K f8 "times" zet) {f9:Addr} (q9:DI K f9 "times_itself" ybf) {f10:Addr} (q10:DI K f10 "over" ygj) {f11:Addr} (q11:DI K f11 "power" yee) {f12:Addr} (q12:DI K f12 "round_of" yci) {f13:Addr} (q13:DI K f13 "length" ydB) {f14:Addr} (q14:DI K f14 "letters" yb8) {f15:Addr} (q15:DI K f15 "word_sum" ybG) {f16:Addr} (q16:DI K f16 "word_times" ya6) {f17:Addr} (q17:DI K f17 "trimmed" ycZ) {f18:Addr} (q18:DI K f18 "widened" zc2) {f19:Addr} (q19:DI K f19 "row_times" zbP) {f20:Addr} (q20:DI K f20 "row_over" ych) {f21:Addr} (q21:DI K f21 "row_of_roots" ybe) {f22:Addr} (q22:DI K f22 "maker" yez) {f23:Addr} (q23:DI K f23 "free" yfO) {f24:Addr} (q24:DI K f24 "how_many" zci) {f25:Addr} (q25:DI K f25 "made" ye2) {f26:Addr} (q26:DI K f26 "words" zcE) {f27:Addr} (q27:DI K f27 "weight" zcr) {f28:Addr} (q28:DI K f28 "counts" ydz) {f29:Addr} (q29:DI K f29 "wide_count" zbD) {f30:Addr} (q30:DI K f30 "wide_counts" yaW) {f31:Addr} (q31:DI K f31 "_law_purse" ybC) {f32:Addr} (q32:DI K f32 "_law_pick" ybP) {f33:Addr} (q33:DI K f33 "_law_raised" yaX) {f34:Addr} (q34:DI K f34 "_law_digits" zbq) {f35:Addr} (q35:DI K f35 "_law_number" zbm) {f36:Addr} (q36:DI K f36 "_law_product" ybb) {f37:Addr} (q37:DI K f37 "_law_is_good" yaP) {f38:Addr} (q38:DI K f38 "_law_field" za8) {f39:Addr} (q39:DI K f39 "_law_table" ya7) {f40:Addr} (q40:DI K f40 "_law_plus" ybS) {f41:Addr} (q41:DI K f41 "_law_times" zbC) {f42:Addr} (q42:DI K f42 "_law_minus" ybu) {f43:Addr} (q43:DI K f43 "_law_power" ybA) {f44:Addr} (q44:DI K f44 "_law_round" zbw) {f45:Addr} (q45:DI K f45 "_law_letters" zaQ) {f46:Addr} (q46:DI K f46 "_law_maker" zbu) {f47:Addr} (q47:DI K f47 "_law_added" ya9) {f48:Addr} (q48:DI K f48 "_law_words" zaU) {f49:Addr} (q49:DI K f49 "_law_choices" zaS) {f50:Addr} (q50:DI K f50 "_law_right" zaT) {f51:Addr} (q51:DI K f51 "_law_row_wheel" yax) {f52:Addr} (q52:DI K f52 "law" zdX) {tk_MOST_WORDS:Tok} (kk_MOST_WORDS:PySem.W.nsIn K mainGlobals "MOST_WORDS"=some (some (.int 4096 tk_MOST_WORDS))) (z1:PySem.W.nsIn K mainGlobals "range"=some none) (z2:PySem.W.nsIn K mainGlobals "len"=some none) (z3:PySem.W.nsIn K mainGlobals "abs"=some none) (z4:PySem.W.nsIn K mainGlobals "min"=some none) (z5:PySem.W.nsIn K mainGlobals "max"=some none) (z6:PySem.W.nsIn K mainGlobals "all"=some none) (z7:PySem.W.nsIn K mainGlobals "any"=some none) (z8:PySem.W.nsIn K mainGlobals "isinstance"=some none) (z9:PySem.W.nsIn K mainGlobals "int"=some none) (z10:PySem.W.nsIn K mainGlobals "bool"=some none) (z11:PySem.W.nsIn K mainGlobals "tuple"=some none) (z12:PySem.W.nsIn K mainGlobals "list"=some none) (z13:PySem.W.nsIn K mainGlobals "zip"=some none) (z14:PySem.W.nsIn K mainGlobals "enumerate"=some none) (z15:PySem.W.nsIn K mainGlobals "repr"=some none) (z16:PySem.W.nsIn K mainGlobals "dict"=some none) (z17:PySem.W.nsIn K mainGlobals "reversed"=some none) (z18:PySem.W.nsIn K mainGlobals "sorted"=some none) (z19:PySem.W.nsIn K mainGlobals "sum"=some none) (z20:PySem.W.nsIn K mainGlobals "set"=some none) (z21:PySem.W.nsIn K mainGlobals "str"=some none),∃fd:FuncData,(∀(s:Shared) (v:Value),BindsTo s fd ⟨[v],[]⟩ [("_law_script",v)])/\∀base:Heap,K.In base->base.Ns mainGlobals mg->FnOk l.prog w K mg base CX0 11 fa fd ["_law_script"] (zdf K)
@[irreducible] noncomputable def K:PySem.W.Frag:=Classical.epsilon λK=>¬ GG K
theorem K_of(h:GG K):∀k:PySem.W.Frag,GG k:=by
 apply Classical.byContradiction;intro q;have ⟨k,hk⟩:=Classical.not_forall.mp q;have e:=Classical.epsilon_spec (p:=λK=>¬ GG K) ⟨k,hk⟩;unfold K at h;exact e h
def Fld(K:PySem.W.Frag)(H:Hp)(a:Addr)(p m t:Nat):Prop:=SqT K H a [.int p,.int m,.int t]
theorem Same.tup{K:PySem.W.Frag}(e:Same H H')(h:SqT K H a xs):SqT K H' a xs:=by
 rcases h with(h |⟨o,h⟩)|h
 ·exact .inl (.inl (e _ _ h))
 ·exact .inl (.inr ⟨o,e _ _ h⟩)
 ·exact .inr h
def mI(σ:St)(i:Nat):Nat:=match σ[i]? with
 |some (some (.int n))=>n.toNat
 |_=>0
local macro_rules | `(tactic| walk_at "rd") => `(tactic| repeat (first | refine ⟨_, rfl, ?_⟩ | refine ⟨_, _, rfl, rfl, ?_⟩))
theorem yhd{Q:Bool->Hp->Prop}{b1 b2:Bool}(h1:∀Q:Bool->Hp->Prop,Q b1 H->t σ H Q)(h2:∀Q:Bool->Hp->Prop,Q b2 H->u σ H Q)(q:Q (b1||b2) H):tOr t u σ H Q:=by
 refine h1 _ ?_;cases b1
 ·exact h2 _ q
 ·exact q
theorem zhR{Q:Bool->Hp->Prop}{b1 b2:Bool}(h1:∀Q:Bool->Hp->Prop,Q b1 H->t σ H Q)(h2:b1=true->∀Q:Bool->Hp->Prop,Q b2 H->u σ H Q)(q:Q (b1&&b2) H):tAnd t u σ H Q:=by
 refine h1 _ ?_;cases b1
 ·exact q
 ·exact h2 rfl _ q
theorem yct:PS X st (λ_ _ _=>False):=λ_ _ _ _ _ _ h=>h.elim
section
variable {P:Program} {w:World} {mg:Str->Option Value} {base:Heap} {f:Addr} {fd:FuncData}
inductive zbQ (K:PySem.W.Frag) (vs:List V) (H:Hp) (Q:VK) (E:XK):Prop
 |mk (a:Addr) (p m t x y:Nat) (c1:vs=[.ref a,.int x,.int y]) (c2:Fld K H a p m t) (c3:2<=p) (c4:p<=64) (c5:∀r:Nat,(∀i,dg p i r=(dg p i x+dg p i y)%p)->Q (.int r) H):zbQ K vs H Q E
theorem zbF:yad ["field","one","other","p","total","unit"] ["field","one","other"] (zac zga):=⟨rfl,rfl,rfl,by decide +kernel,rfl,by decide +kernel,by decide +kernel⟩
theorem yhf(B:Bl mg)(F:Fun K "plus" "plus" zga f fd):FnOk P w K mg base CX0 1 f fd ["field","one","other"] (zbQ K):=by
 refine F.ok zbF (λvs H Q E h=>?_) (λcdv A outer s H vs Q E hr h=>?_)
 ·obtain⟨a,p,m,t,x,y,rfl,_⟩:=h;rfl
 obtain⟨a,p,m,t,x,y,rfl,hF,hp,hp2,q⟩:=h;refine⟨_,((3<|>zbF.nd<|>(zam<<<(pv 0)<<<yab))<=<(4<|>zbF.nd<|>yab)<=<(5<|>zbF.nd<|>yab)<=<(@yaC _ _ _ _ _ _ PassesOwn.never (@PW.pt _ _ _ (@zft _ _ _ _ _ _ _ (yco∪(pv 1)∪yab) (@yd1 _ _ _ _ (yco∪(pv 2)∪yab)))) ((@ybh _ _ 4 _ _ _ _ _ _ zbF.nd rfl (Or.inl rfl) (zav|||(zax|||(yag|||(pv 1)|||(pv 2))|||(pv 3))|||(pv 5)) ycG (by trivial))<=<(@ybh _ _ 1 _ _ _ _ _ _ zbF.nd rfl (Or.inl rfl) (pv 3) zcA (by trivial))<=<(@ybh _ _ 2 _ _ _ _ _ _ zbF.nd rfl (Or.inl rfl) (pv 3) zcA (by trivial))<=<(~~~(@ybh _ _ 5 _ _ _ _ _ _ zbF.nd rfl (Or.inl rfl) (pv 3) zex (by trivial)))))<=<(~~~((pv 4)⁻¹))),?_⟩
 try dsimp only[cxOf]
 refine⟨_,rfl,a,_,_,_,rfl,rfl,hF,rfl,?_⟩
 let I1:St->Hp->Prop:=λσ H'=>H'=H/\Ex4 λ(k o u tt:Nat)=>An5 (σ=[some (.ref a),some (.int o),some (.int u),some (.int p),some (.int tt),some (.int ((p^k:Nat):Int))]) (o=x/p^k) (u=y/p^k) (tt<p^k) (∀i,i<k->dg p i tt=(dg p i x+dg p i y)%p)
 refine yaD I1
  (λσ _=>mI σ 1+mI σ 2) ⟨rfl,0,x,y,0,rfl,by simp,by simp,by simp,λi hi=>absurd hi (Nat.not_lt_zero _)⟩ ?_
 rintro σ H' ⟨rfl,k,o,u,tt,rfl,ho,hu,ht,hd⟩;have pk:0<p^k:=Nat.pow_pos (by lia);refine yhd (b1:=decide ((0:Int)<o)) (b2:=decide ((0:Int)<u)) (λQ q=>⟨_,rfl,_,_,rfl,rfl,_,rfl,q⟩) (λQ q=>⟨_,rfl,_,_,rfl,rfl,_,rfl,q⟩) ?_;refine ite2 (λc=>?_) (λc=>?_)
 ·simp only[Bool.or_eq_true,decide_eq_true_eq]at c;refine⟨λσ' H''=>H''=H'/\σ'=[some (.ref a),some (.int ((o/p:Nat):Int)),some (.int ((u/p:Nat):Int)),some (.int p),some (.int ((tt+(o+u)%p*p^k:Nat):Int)),some (.int ((p^k*p:Nat):Int))],?_,?_⟩
  ·rintro σ' H'' ⟨rfl,rfl⟩;have l1:o/p<=o:=Nat.div_le_self _ _;have l2:u/p<=u:=Nat.div_le_self _ _;have l3:o/p<o\/u/p<u:=by
    rcases c with c|c
    ·exact .inl (Nat.div_lt_self (by lia) (by lia))
    ·exact .inr (Nat.div_lt_self (by lia) (by lia))
   refine⟨_,?_,rfl,rfl,k+1,o/p,u/p,tt+(o+u)%p*p^k,rfl,?_,?_,?_,λi hi=>?_⟩
   ·show o/p+u/p<o+u;lia
   ·rw[ho,Nat.pow_succ,Nat.div_div_eq_div_mul]
   ·rw[hu,Nat.pow_succ,Nat.div_div_eq_div_mul]
   ·exact zfx ht (Nat.mod_lt _ (by lia))
   ·rw[zfZ hp ht (Nat.mod_lt _ (by lia))];by_cases e:i=k
    ·rw[if_pos e,ho,hu,e];unfold dg;rw[Nat.add_mod]
    ·rw[if_neg e];exact hd i (by lia)
  ·walk_at "rd"
   refine⟨by show(0:Int)<p;lia,?_⟩
   walk_at "rd"
   have hm:(o+u)%p<p:=Nat.mod_lt _ (by lia);refine⟨.inl ⟨by show -(2^64:Int)<(((o+u)%p:Nat):Int);lia,by show(((o+u)%p:Nat):Int)<2^64;lia⟩,?_⟩
   walk_at "rd"
   refine⟨⟨by show(0:Int)<p;lia,by show(p:Int)<2^64;lia⟩,?_⟩
   walk_at "rd"
   refine⟨⟨by show(0:Int)<p;lia,by show(p:Int)<2^64;lia⟩,?_⟩
   walk_at "rd"
   refine⟨.inr ⟨by show -(2^64:Int)<p;lia,by show(p:Int)<2^64;lia⟩,?_⟩;exact⟨rfl,rfl⟩
 ·simp only[Bool.or_eq_true,decide_eq_true_eq,not_or]at c;refine⟨_,rfl,q tt λi=>?_⟩;by_cases e:i<k
  ·exact hd i e
  ·have hx:x<p^k:=by
    rcases Nat.lt_or_ge x (p^k) with h|h
    ·exact h
    ·have:=Nat.div_pos h pk;lia
   have hy:y<p^k:=by
    rcases Nat.lt_or_ge y (p^k) with h|h
    ·exact h
    ·have:=Nat.div_pos h pk;lia
   rw[zal hp ht (by lia),zal hp hx (by lia),zal hp hy (by lia)];simp
inductive zaI (K:PySem.W.Frag) (vs:List V) (H:Hp) (Q:VK) (E:XK):Prop
 |mk (a:Addr) (p m t d x:Nat) (c1:vs=[.ref a,.int d,.int x]) (c2:Fld K H a p m t) (c3:2<=p) (c4:p<=64) (c5:d<2^64) (c6:∀r:Nat,(∀i,dg p i r=d*dg p i x%p)->Q (.int r) H):zaI K vs H Q E
theorem zat:yad ["field","digit","one","p","total","unit"] ["field","digit","one"] (zac zbp):=⟨rfl,rfl,rfl,by decide +kernel,rfl,by decide +kernel,by decide +kernel⟩
theorem yc7(B:Bl mg)(F:Fun K "digit_times" "digit_times" zbp f fd):FnOk P w K mg base CX0 1 f fd ["field","digit","one"] (zaI K):=by
 refine F.ok zat (λvs H Q E h=>?_) (λcdv A outer s H vs Q E hr h=>?_)
 ·obtain⟨a,p,m,t,x,y,rfl,_⟩:=h;rfl
 obtain⟨a,p,m,t,d,x,rfl,hF,hp,hp2,hd2,q⟩:=h;refine⟨_,((3<|>zat.nd<|>(zam<<<(pv 0)<<<yab))<=<(4<|>zat.nd<|>yab)<=<(5<|>zat.nd<|>yab)<=<(@yaC _ _ _ _ _ _ PassesOwn.never (yco∪(pv 2)∪yab) ((@ybh _ _ 4 _ _ _ _ _ _ zat.nd rfl (Or.inl rfl) (zav|||(zax|||(zav|||(pv 1)|||(pv 2))|||(pv 3))|||(pv 5)) ycG (by trivial))<=<(@ybh _ _ 2 _ _ _ _ _ _ zat.nd rfl (Or.inl rfl) (pv 3) zcA (by trivial))<=<(~~~(@ybh _ _ 5 _ _ _ _ _ _ zat.nd rfl (Or.inl rfl) (pv 3) zex (by trivial)))))<=<(~~~((pv 4)⁻¹))),?_⟩
 try dsimp only[cxOf]
 refine⟨_,rfl,a,_,_,_,rfl,rfl,hF,rfl,?_⟩
 let I2:St->Hp->Prop:=λσ H'=>H'=H/\Ex3 λ(k o tt:Nat)=>An4 (σ=[some (.ref a),some (.int d),some (.int o),some (.int p),some (.int tt),some (.int ((p^k:Nat):Int))]) (o=x/p^k) (tt<p^k) (∀i,i<k->dg p i tt=d*dg p i x%p)
 refine yaD I2
  (λσ _=>mI σ 2) ⟨rfl,0,x,0,rfl,by simp,by simp,λi hi=>absurd hi (Nat.not_lt_zero _)⟩ ?_
 rintro σ H' ⟨rfl,k,o,tt,rfl,ho,ht,hd⟩;have pk:0<p^k:=Nat.pow_pos (by lia)
 walk_at "rd"
 refine ite2 (λc=>?_) (λc=>?_)
 ·have c':0<o:=by have:=of_decide_eq_true c;lia
  refine⟨λσ' H''=>H''=H'/\σ'=[some (.ref a),some (.int d),some (.int ((o/p:Nat):Int)),some (.int p),some (.int ((tt+d*o%p*p^k:Nat):Int)),some (.int ((p^k*p:Nat):Int))],?_,?_⟩
  ·rintro σ' H'' ⟨rfl,rfl⟩;refine⟨_,?_,rfl,rfl,k+1,o/p,tt+d*o%p*p^k,rfl,?_,?_,λi hi=>?_⟩
   ·show o/p<o;exact Nat.div_lt_self c' (by lia)
   ·rw[ho,Nat.pow_succ,Nat.div_div_eq_div_mul]
   ·exact zfx ht (Nat.mod_lt _ (by lia))
   ·rw[zfZ hp ht (Nat.mod_lt _ (by lia))];by_cases e:i=k
    ·rw[if_pos e,ho,e];unfold dg;rw[Nat.mul_mod_mod]
    ·rw[if_neg e];exact hd i (by lia)
  ·have hm:d*o%p<p:=Nat.mod_lt _ (by lia)
   walk_at "rd"
   refine⟨.inl ⟨by show -(2^64:Int)<(d:Int);lia,by show(d:Int)<2^64;lia⟩,?_⟩
   walk_at "rd"
   refine⟨by show(0:Int)<p;lia,?_⟩
   walk_at "rd"
   refine⟨.inl ⟨by show -(2^64:Int)<((d*o%p:Nat):Int);lia,by show((d*o%p:Nat):Int)<2^64;lia⟩,?_⟩
   walk_at "rd"
   refine⟨⟨by show(0:Int)<p;lia,by show(p:Int)<2^64;lia⟩,?_⟩
   walk_at "rd"
   refine⟨.inr ⟨by show -(2^64:Int)<p;lia,by show(p:Int)<2^64;lia⟩,?_⟩;exact⟨rfl,rfl⟩
 ·have c':o=0:=by have:=of_decide_eq_false (Bool.eq_false_iff.mpr c);lia
  refine⟨_,rfl,q tt λi=>?_⟩;by_cases e:i<k
  ·exact hd i e
  ·have hx:x<p^k:=by
    rcases Nat.lt_or_ge x (p^k) with h|h
    ·exact h
    ·have:=Nat.div_pos h pk;lia
   rw[zal hp ht (by lia),zal hp hx (by lia)];simp
inductive zah (vs:List V) (H:Hp) (Q:VK) (E:XK):Prop
 |mk (b k:Nat) (c1:vs=[.int b,.int k]) (c2:b<=64) (c3:k<=1000) (c4:Q (.int ((b^k:Nat):Int)) H):zah vs H Q E
theorem zaL:yad ["base","many","product","step"] ["base","many"] (zac zbg):=⟨rfl,rfl,rfl,by decide +kernel,rfl,by decide +kernel,by decide +kernel⟩
theorem zbX{i j:Int}(h:i=j):V.int i=V.int j:=congrArg V.int h
inductive yb3 (K:PySem.W.Frag) (vs:List V) (H:Hp) (Q:VK) (E:XK):Prop
 |mk (a:Addr) (p m t x y:Nat) (c1:vs=[.ref a,.int x,.int y]) (c2:Fld K H a p m t) (c3:2<=p) (c4:p<=64) (c5:∀r:Nat,(∀i,dg p i r=(dg p i x+(p-1)*dg p i y)%p)->Q (.int r) H):yb3 K vs H Q E
theorem zgP:yad ["field","one","other"] ["field","one","other"] (zac zef):=⟨rfl,rfl,rfl,by decide +kernel,rfl,by decide +kernel,by decide +kernel⟩
theorem zgx(B:Bl mg)(h_plus:Has P w K mg base 1 "plus" ["field","one","other"] (zbQ K))(h_digit_times:Has P w K mg base 1 "digit_times" ["field","digit","one"] (zaI K))(F:Fun K "minus" "minus" zef f fd):FnOk P w K mg base CX0 2 f fd ["field","one","other"] (yb3 K):=by
 refine F.ok zgP (λvs H Q E h=>?_) (λcdv A outer s H vs Q E hr h=>?_)
 ·obtain⟨a,p,m,t,x,y,rfl,_⟩:=h;rfl
 obtain⟨a,p,m,t,x,y,rfl,hF,hp,hp2,q⟩:=h;refine⟨_,(~~~((h_plus<$>((pv 0)>=>(pv 1)>=>(h_digit_times<$>((pv 0)>=>(yan|||(zam<<<(pv 0)<<<yab)|||yab)>=>(pv 2)>=>zab))>=>zab))⁻¹)),?_⟩
 try dsimp only[cxOf]
 walk_at "rd"
 refine⟨a,_,_,_,rfl,rfl,hF,rfl,?_⟩
 walk_at "rd"
 refine⟨a,p,m,t,p-1,y,by(try dsimp only);rw[show((p:Nat):Int)-1=((p-1:Nat):Int) by lia];rfl,hF,hp,hp2,by lia,λr1 h1=>?_⟩;refine⟨a,p,m,t,x,r1,rfl,hF,hp,hp2,λr h2=>q r λi=>?_⟩;rw[h2 i,h1 i,Nat.add_mod_mod]
inductive yc3 (K:PySem.W.Frag) (vs:List V) (H:Hp) (Q:VK) (E:XK):Prop
 |mk (a:Addr) (p m t x:Nat) (c1:vs=[.ref a,.int x]) (c2:Fld K H a p m t) (c3:2<=p) (c4:1<=m) (c5:p^m<=64) (c6:t<p^m) (c7:x<p^m) (c8:∀r:Nat,(∀i,dg p i r=yay m (λi=>dg p i t) (λi=>dg p i x) i%p)->Q (.int r) H):yc3 K vs H Q E
theorem p_le{p m:Nat}(hp:2<=p)(hm:1<=m)(h:p^m<=64):p<=64:=Nat.le_trans (by simpa using Nat.pow_le_pow_right (n:=p) (by lia) hm) h
theorem m_le{p m:Nat}(hp:2<=p)(h:p^m<=64):m<=6:=by
 rcases Nat.lt_or_ge 6 m with h1|h1
 ·have:=Nat.pow_le_pow_left hp m;have:=Nat.pow_le_pow_right (n:=2) (by lia) h1
  lia
 ·exact h1
theorem zbk:yad ["field","one","p","m","top","last_unit","moved"] ["field","one"] (zac zdk):=⟨rfl,rfl,rfl,by decide +kernel,rfl,by decide +kernel,by decide +kernel⟩
theorem zfJ(B:Bl mg)(h_plus:Has P w K mg base 1 "plus" ["field","one","other"] (zbQ K))(h_digit_times:Has P w K mg base 1 "digit_times" ["field","digit","one"] (zaI K))(h_number_power:Has P w K mg base 1 "number_power" ["base","many"] zah)(F:Fun K "lifted" "lifted" zdk f fd):FnOk P w K mg base CX0 2 f fd ["field","one"] (yc3 K):=by
 refine F.ok zbk (λvs H Q E h=>?_) (λcdv A outer s H vs Q E hr h=>?_)
 ·obtain⟨a,p,m,t,x,rfl,_⟩:=h;rfl
 obtain⟨a,p,m,t,x,rfl,hF,hp,hm,hpm,ht,hx,q⟩:=h;have hp2:=p_le hp hm hpm;have hm6:=m_le hp hpm;refine⟨_,(((pv 0)≈((2&&&zbk.nd)∩((3&&&zbk.nd)∩((4&&&zbk.nd)∩yav))))<=<(5<|>zbk.nd<|>(h_number_power<$>((pv 2)>=>(yan|||(pv 3)|||yab)>=>zab)))<=<(6<|>zbk.nd<|>(zav|||(zax|||(pv 1)|||(pv 5))|||(pv 2)))<=<(~~~((h_plus<$>((pv 0)>=>(pv 6)>=>(h_digit_times<$>((pv 0)>=>(zcl|||(pv 1)|||(pv 5))>=>(pv 4)>=>zab))>=>zab))⁻¹))),?_⟩
 try dsimp only[cxOf]
 refine⟨_,rfl,a,_,rfl,hF,rfl,_,_,rfl,_,_,rfl,_,_,rfl,rfl,?_⟩
 walk_at "rd"
 refine⟨p,m-1,by(try dsimp only);rw[show((m:Nat):Int)-1=((m-1:Nat):Int) by lia];rfl,hp2,by lia,?_⟩;have hl:p^(m-1)<=64:=Nat.le_trans (Nat.pow_le_pow_right (by lia) (by lia)) hpm;have hl0:0<p^(m-1):=Nat.pow_pos (by lia)
 walk_at "rd"
 refine⟨by show(0:Int)<((p^(m-1):Nat):Int);lia,?_⟩
 walk_at "rd"
 refine⟨.inr ⟨by show -(2^64:Int)<(p:Int);lia,by show(p:Int)<2^64;lia⟩,?_⟩
 walk_at "rd"
 refine⟨⟨by show(0:Int)<((p^(m-1):Nat):Int);lia,by show((p^(m-1):Nat):Int)<2^64;lia⟩,?_⟩
 walk_at "rd"
 have hdl:=yhk hp hm hx;have hdl2:=yir hp (m-1) x;refine⟨a,p,m,t,x/p^(m-1),t,rfl,hF,hp,hp2,by lia,λr1 h1=>?_⟩;refine⟨a,p,m,t,x%p^(m-1)*p,r1,rfl,hF,hp,hp2,λr h2=>q r λi=>?_⟩;rw[h2 i,h1 i,yiL hp,yih hp,hdl,Nat.add_mod_mod];unfold yay yaE;by_cases hi:i<m
 ·rw[if_pos hi];by_cases h0:i=0
  ·rw[if_pos h0,if_pos h0]
  ·rw[if_neg h0,if_neg h0,if_pos (by lia)]
 ·rw[if_neg hi,if_neg (by lia),if_neg (by lia),zal hp ht (by lia)];simp
inductive zba (K:PySem.W.Frag) (vs:List V) (H:Hp) (Q:VK) (E:XK):Prop
 |mk (a:Addr) (p m t x y:Nat) (c1:vs=[.ref a,.int x,.int y]) (c2:Fld K H a p m t) (c3:2<=p) (c4:1<=m) (c5:p^m<=64) (c6:t<p^m) (c7:x<p^m) (c8:y<p^m) (c9:∀r:Nat,r<p^m->(∀i,i<m->dg p i r=tn m (λi=>dg p i t) m (λi=>dg p i x) (λi=>dg p i y) i%p)->Q (.int r) H):zba K vs H Q E
theorem ybM:yad ["field","one","other","p","total"] ["field","one","other"] (zac zet):=⟨rfl,rfl,rfl,by decide +kernel,rfl,by decide +kernel,by decide +kernel⟩
theorem ygD(B:Bl mg)(h_plus:Has P w K mg base 1 "plus" ["field","one","other"] (zbQ K))(h_digit_times:Has P w K mg base 1 "digit_times" ["field","digit","one"] (zaI K))(h_lifted:Has P w K mg base 2 "lifted" ["field","one"] (yc3 K))(F:Fun K "times" "times" zet f fd):FnOk P w K mg base CX0 3 f fd ["field","one","other"] (zba K):=by
 refine F.ok ybM (λvs H Q E h=>?_) (λcdv A outer s H vs Q E hr h=>?_)
 ·obtain⟨a,p,m,t,x,y,rfl,_⟩:=h;rfl
 obtain⟨a,p,m,t,x,y,rfl,hF,hp,hm,hpm,ht,hx,hy,q⟩:=h;have hp2:=p_le hp hm hpm;refine⟨_,((3<|>ybM.nd<|>(zam<<<(pv 0)<<<yab))<=<(4<|>ybM.nd<|>yab)<=<(@yaC _ _ _ _ _ _ PassesOwn.never (yco∪(pv 1)∪yab) ((4<|>ybM.nd<|>(h_plus<$>((pv 0)>=>(pv 4)>=>(h_digit_times<$>((pv 0)>=>(zax|||(pv 1)|||(pv 3))>=>(pv 2)>=>zab))>=>zab)))<=<(@ybh _ _ 1 _ _ _ _ _ _ ybM.nd rfl (Or.inl rfl) (pv 3) zcA (by trivial))<=<(~~~((yco∪(pv 1)∪yab)*>((~~~(2<|>ybM.nd<|>(h_lifted<$>((pv 0)>=>(pv 2)>=>zab)))),yao)))))<=<(~~~((pv 4)⁻¹))),?_⟩
 try dsimp only[cxOf]
 refine⟨_,rfl,a,_,_,_,rfl,rfl,hF,rfl,?_⟩
 let I3:St->Hp->Prop:=λσ H'=>H'=H/\Ex4 λ(k o u tt:Nat)=>An5 (σ=[some (.ref a),some (.int o),some (.int u),some (.int p),some (.int tt)]) (o<p^k) (u<p^m) (tt<p^m) (∀i,i<m->(dg p i tt+tn m (λi=>dg p i t) k (λi=>dg p i o) (λi=>dg p i u) i)%p=tn m (λi=>dg p i t) m (λi=>dg p i x) (λi=>dg p i y) i%p)
 refine yaD I3
  (λσ _=>mI σ 1) ⟨rfl,m,x,y,0,rfl,hx,hy,Nat.pow_pos (by lia),λi _=>by rw[za6,Nat.zero_add]⟩ ?_
 rintro σ H' ⟨rfl,k,o,u,tt,rfl,ho,hu,htt,hd⟩
 walk_at "rd"
 refine ite2 (λc=>?_) (λc=>?_)
 ·have c':0<o:=by have:=of_decide_eq_true c;lia
  have hk:k≠0:=λe=>by rw[e]at ho;simp at ho;lia
  obtain⟨k,rfl⟩:∃j,k=j+1:=⟨k-1,by lia⟩
  have om:o%p<p:=Nat.mod_lt _ (by lia);have ho2:o/p<p^k:=Nat.div_lt_of_lt_mul (by rw[Nat.pow_succ,Nat.mul_comm]at ho;exact ho);have ho3:o/p<o:=Nat.div_lt_self c' (by lia);refine⟨λσ' H''=>H''=H'/\Ex3 λ(o' u' t':Nat)=>o'=o/p/\σ'=[some (.ref a),some (.int o'),some (.int u'),some (.int p),some (.int t')]/\u'<p^m/\t'<p^m/\
   ∀i,i<m->(dg p i t'+tn m (λi=>dg p i t) k (λi=>dg p i o') (λi=>dg p i u') i)%p=tn m (λi=>dg p i t) m (λi=>dg p i x) (λi=>dg p i y) i%p,?_,?_⟩
  ·rintro σ' H'' ⟨rfl,o',u',t',rfl,rfl,b1,b2,b3⟩;exact⟨_,by show o/p<o;exact ho3,rfl,rfl,k,o/p,u',t',rfl,ho2,b1,b2,b3⟩
  walk_at "rd"
  refine⟨by show(0:Int)<p;lia,?_⟩
  walk_at "rd"
  refine⟨a,p,m,t,o%p,u,rfl,hF,hp,hp2,by lia,λr1 h1=>?_⟩;refine⟨a,p,m,t,tt,r1,rfl,hF,hp,hp2,λr2 h2=>?_⟩;have hr2:r2<p^m:=zce hp λi hi=>by rw[h2 i,h1 i,zal hp htt hi,zal hp hu hi];simp
  have hd2:∀i,i<m->(dg p i r2+tn m (λi=>dg p i t) k (λi=>dg p i (o/p)) (yay m (λi=>dg p i t) λi=>dg p i u) i)%p=tn m (λi=>dg p i t) m (λi=>dg p i x) (λi=>dg p i y) i%p:=λi hi=>by
   rw[<-hd i hi,h2 i,h1 i];show _=(dg p i tt+(dg p 0 o*dg p i u+tn m (λi=>dg p i t) k (λj=>dg p (j+1) o) (yay m (λi=>dg p i t) λi=>dg p i u) i))%p;rw[ycM,zbc,<-Nat.add_assoc];refine zbo ?_ rfl;rw[Nat.mod_mod];exact zbo rfl (Nat.mod_mod _ _)
  walk_at "rd"
  refine⟨⟨by show(0:Int)<p;lia,by show(p:Int)<2^64;lia⟩,?_⟩
  walk_at "rd"
  refine ite2 (λc2=>?_) (λc2=>?_)
  ·walk_at "rd"
   refine⟨a,p,m,t,u,rfl,hF,hp,hm,hpm,ht,hu,λr3 h3=>?_⟩;have hr3:r3<p^m:=zce hp λi hi=>by rw[h3 i];unfold yay;rw[if_neg (by lia)];simp
   refine⟨rfl,o/p,r3,r2,rfl,rfl,hr3,hr2,λi hi=>?_⟩;rw[<-hd2 i hi];exact zbo rfl (za9 hm k _ _ _ (λj _=>by rw[h3 j,Nat.mod_mod]) i hi)
  ·have c3:o/p=0:=by have:=of_decide_eq_false (Bool.eq_false_iff.mpr c2);exact Nat.le_zero.mp (Int.ofNat_le.mp (show((o/p:Nat):Int)<=((0:Nat):Int) from Int.not_lt.mp this))
   refine⟨rfl,o/p,u,r2,rfl,rfl,hu,hr2,λi hi=>?_⟩;rw[<-hd2 i hi,c3,ycg k _ _ i (λj=>za6 p j),ycg k _ _ i (λj=>za6 p j)]
 ·have c':o=0:=by have:=of_decide_eq_false (Bool.eq_false_iff.mpr c);lia
  refine⟨_,rfl,q tt htt λi hi=>?_⟩;rw[<-hd i hi,c',ycg k _ _ i (λj=>za6 p j),Nat.add_zero,zd3]
end
end My
end
section
namespace My
open PySem L2 Dg
local macro_rules | `(tactic| walk_at "rd") => `(tactic| repeat (first | refine ⟨_, rfl, ?_⟩ | refine ⟨_, _, rfl, rfl, ?_⟩))
theorem yaa(h:H p=none)(o:HO):Same H (upd H p o):=λb u q=>by rw[zad (yac q h)];exact q
abbrev Vn(n:Nat):V:=.int (n:Int)
noncomputable def Pu(H:Hp)(a g:Addr):Prop:=Ex3 λ(ns:List Nat) (s t:Nat)=>H a=some (.lst [.ref g,Vn s,Vn t])/\H g=some (.lst (ns.map Vn))
theorem Pu.ne(h:Pu H a g):a≠g:=by
 obtain⟨ns,s,t,h1,h2⟩:=h;intro e;subst e;rw[h1]at h2;have h3:=HO.lst.inj (Option.some.inj h2);cases ns with
 |nil=>cases h3
 |cons n ns=>cases h3
def yar(a g:Addr)(H H':Hp):Prop:=∀b o,b≠a->b≠g->H b=some o->H' b=some o
theorem yar.refl:yar a g H H:=λ_ _ _ _ e=>e
theorem yar.trans(h1:yar a g H H1)(h2:yar a g H1 H2):yar a g H H2:=λb o n1 n2 e=>h2 b o n1 n2 (h1 b o n1 n2 e)
theorem Same.x(h:Same H H1):yar a g H H1:=λb o _ _ e=>h b o e
theorem Pu.same(h:Pu H a g)(s:Same H H'):Pu H' a g:=by
 obtain⟨ns,x,t,h1,h2⟩:=h;exact⟨ns,x,t,s _ _ h1,s _ _ h2⟩
theorem szl(n:Nat)(h:n<=100000:=by lia):n<=sizeLine:=by rw[sizeLine_eq];lia
section
variable {P:Program} {w:World} {mg:Str->Option Value} {base:Heap} {f:Addr} {fd:FuncData}
theorem zao:yad ["_law_one","_law_many","_law_found","_law_turn"] ["_law_one","_law_many"] (zac yaX):=⟨rfl,rfl,rfl,by decide +kernel,rfl,by decide +kernel,by decide +kernel⟩
theorem yib(B:Bl mg)(F:Fun K "_law_raised" "_law_raised" yaX f fd):FnOk P w K mg base CX0 1 f fd ["_law_one","_law_many"] zah:=by
 refine F.ok zao (λvs H Q E h=>?_) (λcdv A outer s H vs Q E hr h=>?_)
 ·obtain⟨b,k,rfl,_⟩:=h;rfl
 obtain⟨b,k,rfl,hb,hk,q⟩:=h;refine⟨_,((2<|>zao.nd<|>yab)<=<((↑((pv 1)>=>zab))<&>((3&&&zao.nd),(~~~(2<|>zao.nd<|>(zav|||(pv 2)|||(pv 0))))))<=<(~~~((pv 2)⁻¹))),?_⟩
 try dsimp only[cxOf]
 refine⟨_,rfl,k,rfl,by lia,by lia,zay (n:=k) (λi σ H'=>H'=H/\∃s,σ=[some (.int b),some (.int k),some (.int ((b^i:Nat):Int)),s]) ⟨rfl,none,rfl⟩ ?_ ?_⟩
 ·rintro i σ H' hi ⟨rfl,s,rfl⟩
  walk_at "rd"
  refine⟨.inr ⟨by lia,by lia⟩,rfl,some (.int (0+(i:Int))),?_⟩;rw[Nat.pow_succ];rfl
 ·rintro σ H' ⟨rfl,s,rfl⟩;exact⟨_,rfl,q⟩
def digL(p m x:Nat):List V:=(List.range m).map λi=>Vn (dg p i x)
theorem yfW(p m x:Nat):digL p (m+1) x=digL p m x++[Vn (dg p m x)]:=by unfold digL;rw[List.range_succ,List.map_append];rfl
theorem zbr(p m x:Nat):(digL p m x).length=m:=by simp[digL]
inductive zcQ (K:PySem.W.Frag) (vs:List V) (H:Hp) (Q:VK) (E:XK):Prop
 |mk (a:Addr) (p m t x:Nat) (c1:vs=[.ref a,.int x]) (c2:Fld K H a p m t) (c3:2<=p) (c4:p<=64) (c5:m<=64) (c6:∀r H',H r=none->Same H H'->H' r=some (.lst (digL p m x))->Q (.ref r) H'):zcQ K vs H Q E
theorem yaR:yad ["_law_field_here","_law_thing","_law_found","_law_k"] ["_law_field_here","_law_thing"] (zac zbq):=⟨rfl,rfl,rfl,by decide +kernel,rfl,by decide +kernel,by decide +kernel⟩
theorem zfR(B:Bl mg)(F:Fun K "_law_digits" "_law_digits" zbq f fd):FnOk P w K mg base CX0 1 f fd ["_law_field_here","_law_thing"] (zcQ K):=by
 refine F.ok yaR (λvs H Q E h=>?_) (λcdv A outer s H vs Q E hr h=>?_)
 ·obtain⟨a,p,m,t,x,rfl,_⟩:=h;rfl
 obtain⟨a,p,m,t,x,rfl,hF,hp,hp2,hm,q⟩:=h;refine⟨_,((2<|>yaR.nd<|>(@zaq _ _ _ _ zab))<=<((↑((zam<<<(pv 0)<<<yab)>=>zab))<&>((3&&&yaR.nd),((@zcj _ _ _ _ (@yfp _ _ _ _ _ _ _ _ _ _ _ _ PySem.F.plainAttrs_list PySem.F.slot_list_append PySem.F.type_list_append zcd (pv 2) ((zax|||(pv 1)|||(zam<<<(pv 0)<<<yab))>=>zab) ⋯ ⋯ ⋯ ⋯ ⋯) ⋯)<=<(~~~(1<|>yaR.nd<|>(zcl|||(pv 1)|||(zam<<<(pv 0)<<<yab)))))))<=<(~~~((pv 2)⁻¹))),?_⟩
 try dsimp only[cxOf]
 refine⟨szl 0,λl hl=>?_⟩;have g1:Same H (upd H l (.lst [])):=yaa hl _;refine⟨_,rfl,a,_,_,_,rfl,rfl,Same.tup g1 hF,rfl,m,rfl,by lia,by lia,zay (n:=m) (λi σ H'=>H'=upd H l (.lst (digL p i x))/\∃s,σ=[some (.ref a),some (.int ((x/p^i:Nat):Int)),some (.ref l),s]) ⟨rfl,none,by simp;rfl⟩ ?_ ?_⟩
 ·rintro i σ H' hi ⟨rfl,s,rfl⟩;have g2:Same H (upd H l (.lst (digL p i x))):=yaa hl _;refine⟨_,rfl,.inl ⟨rfl,_,SqL.of zaa⟩,?_⟩
  walk_at "rd"
  refine⟨a,_,_,_,rfl,rfl,Same.tup g2 hF,rfl,?_⟩
  walk_at "rd"
  refine⟨by show(0:Int)<p;lia,l,_,_,rfl,rfl,zaa,by rw[zbr];exact Nat.lt_of_le_of_lt (show i<=1000 by lia) (zai (Nat.le_refl _)),?_⟩;rw[yf8];have g3:Same H (upd H l (.lst (digL p (i+1) x))):=yaa hl _;have e1:digL p i x++[V.int (((x/p^i:Nat):Int)%(p:Int))]=digL p (i+1) x:=by rw[yfW];rfl
  rw[e1];refine⟨_,rfl,_,rfl,a,_,_,_,rfl,rfl,Same.tup g3 hF,rfl,?_⟩
  walk_at "rd"
  refine⟨⟨by show(0:Int)<p;lia,by show(p:Int)<2^64;lia⟩,rfl,some (.int (0+(i:Int))),?_⟩;rw[Nat.pow_succ,<-Nat.div_div_eq_div_mul];rfl
 ·rintro σ H' ⟨rfl,s,rfl⟩;exact⟨_,rfl,q l _ hl (yaa hl _) zaa⟩
def num(p:Nat):List Nat->Nat
 | []=>0
 |d::ds=>num p ds*p+d
theorem ygg{p:Nat}(hp:2<=p):∀(ds:List Nat),(∀d∈ds,d<p)->∀i,dg p i (num p ds)=ds.getD i 0
 | [],_,i=>by simp[num,za6]
 |d::ds,h,i=>by
  have hd:d<p:=h d List.mem_cons_self;have ih:=ygg hp ds λx hx=>h x (List.mem_cons_of_mem _ hx)
  cases i with
  |zero=>rw[zbc];show(num p ds*p+d)%p=d;rw[Nat.mul_comm,Nat.mul_add_mod,Nat.mod_eq_of_lt hd]
  |succ i=>
   rw[ybn];show dg p i ((num p ds*p+d)/p)=ds.getD i 0;rw[Nat.mul_comm,Nat.mul_add_div (by lia),Nat.div_eq_of_lt hd,Nat.add_zero];exact ih i
inductive ycW (K:PySem.W.Frag) (vs:List V) (H:Hp) (Q:VK) (E:XK):Prop
 |mk (a b:Addr) (p m t:Nat) (ds:List Nat) (c1:vs=[.ref a,.ref b]) (c2:Fld K H a p m t) (c3:2<=p) (c4:p<=64) (c5:SqL K H b (ds.map Vn)) (c6:∀H',Same H H'->Q (Vn (num p ds)) H'):ycW K vs H Q E
theorem yaS:yad ["_law_field_here","_law_digits_here","_law_found","_law_digit"] ["_law_field_here","_law_digits_here"] (zac zbm):=⟨rfl,rfl,rfl,by decide +kernel,rfl,by decide +kernel,by decide +kernel⟩
theorem zgd(B:Bl mg)(F:Fun K "_law_number" "_law_number" zbm f fd):FnOk P w K mg base CX0 1 f fd ["_law_field_here","_law_digits_here"] (ycW K):=by
 refine F.ok yaS (λvs H Q E h=>?_) (λcdv A outer s H vs Q E hr h=>?_)
 ·obtain⟨a,b,p,m,t,ds,rfl,_⟩:=h;rfl
 obtain⟨a,b,p,m,t,ds,rfl,hF,hp,hp2,hb,q⟩:=h;refine⟨_,((2<|>yaS.nd<|>yab)<=<((@zaO _ _ _ _ (@zh5 _ _ _ _ _ _ _ _ (pv 1)))<&>((3&&&yaS.nd),(~~~(2<|>yaS.nd<|>(yag|||(zav|||(pv 2)|||(zam<<<(pv 0)<<<yab))|||(pv 3))))))<=<(~~~((pv 2)⁻¹))),?_⟩
 try dsimp only[cxOf]
 refine⟨_,rfl,b,_,rfl,hb,λl hl=>?_⟩;have g1:Same H (upd H l (.lst (ds.map Vn).reverse)):=yaa hl _;refine⟨l,rfl,⟨_,SqL.of zaa⟩,ydF (xs:=(ds.map Vn).reverse) (λi σ H'=>H'=upd H l (.lst (ds.map Vn).reverse)/\∃s,σ=[some (.ref a),some (.ref b),some (Vn (num p (ds.drop (ds.length-i)))),s]) ⟨rfl,none,by rw[Nat.sub_zero,List.drop_length];rfl⟩ ?_ ?_ ?_⟩
 ·rintro i σ H' hi ⟨rfl,_⟩;exact SqL.of zaa
 ·rintro i x σ H' hx ⟨rfl,s,rfl⟩;have hi:i<ds.length:=by have:=(List.getElem?_eq_some_iff.mp hx).1;simpa using this
  have ex:x=Vn (ds[ds.length-1-i]):=by
   rw[List.getElem?_reverse (by simpa using hi),List.getElem?_map,List.length_map,List.getElem?_eq_getElem (by lia)]at hx;exact(Option.some.inj hx).symm
  subst ex
  walk_at "rd"
  refine⟨a,_,_,_,rfl,rfl,Same.tup g1 hF,rfl,?_⟩
  walk_at "rd"
  refine⟨.inr ⟨by show -(2^64:Int)<(p:Int);lia,by show(p:Int)<2^64;lia⟩,?_⟩
  walk_at "rd"
  refine⟨rfl,some (Vn (ds[ds.length-1-i])),?_⟩;have e:ds.drop (ds.length-(i+1))=ds[ds.length-1-i]::ds.drop (ds.length-i):=by
   rw[show ds.length-(i+1)=ds.length-1-i by lia,List.drop_eq_getElem_cons (by lia)];congr 2;lia
  rw[e];rfl
 ·rintro σ H' ⟨rfl,s,rfl⟩;refine⟨_,rfl,?_⟩;have e:ds.length-(ds.map Vn).reverse.length=0:=by simp
  rw[e,List.drop_zero];exact q _ g1
inductive zdN (K:PySem.W.Frag) (vs:List V) (H:Hp) (Q:VK) (E:XK):Prop
 |mk (a:Addr) (ns:List Int) (c1:vs=[.ref a]) (c2:SqL K H a (ns.map V.int)) (c3:∀r g H',H r=none->H g=none->Same H H'->Pu H' r g->Q (.ref r) H'):zdN K vs H Q E
theorem zaY:yad ["_law_script","_law_seed","_law_great","_law_cell"] ["_law_script"] (zac ybC):=⟨rfl,rfl,rfl,by decide +kernel,rfl,by decide +kernel,by decide +kernel⟩
theorem zg5{i:Int}(h:0<=i):∃n:Nat,V.int i=Vn n:=by obtain⟨n,e⟩:=Int.eq_ofNat_of_zero_le h;exact⟨n,by rw[e]⟩
theorem zgQ(B:Bl mg)(F:Fun K "_law_purse" "_law_purse" ybC f fd):FnOk P w K mg base CX0 1 f fd ["_law_script"] (zdN K):=by
 refine F.ok zaY (λvs H Q E h=>?_) (λcdv A outer s H vs Q E hr h=>?_)
 ·obtain⟨a,ns,rfl,_⟩:=h;rfl
 obtain⟨a,ns,rfl,ha,q⟩:=h;refine⟨_,((@ycy _ _ 1 2 _ _ _ _ _ _ _ _ _ _ _ rfl zaY.nd rfl rfl (by decide) rfl rfl (yab>=>(@zaq _ _ _ _ zab)>=>zab) rfl ⋯)<=<((@zaO _ _ _ _ (@zcw _ _ _ _ _ _ _ _ _ _ zei (pv 0) zeo (@zcO _ _ _ yab)))<&>((3&&&zaY.nd),((1<|>zaY.nd<|>(zax|||(yag|||(yag|||(zav|||(pv 1)|||yab)|||(zax|||(pv 3)|||yab))|||yab)|||yab))<=<(~~~((ziK∪(zeV>>>("abs",zc3,((pv 3)>=>zab)))∪(zdU|||yab|||yab))*>((~~~(@zcj _ _ _ _ (@yfp _ _ _ _ _ _ _ _ _ _ _ _ PySem.F.plainAttrs_list PySem.F.slot_list_append PySem.F.type_list_append zcd (pv 2) ((zax|||(zeV>>>("abs",zc3,((pv 3)>=>zab)))|||(zho|||(zdU|||yab|||yab)|||(zdU|||yab|||yab)))>=>zab) ⋯ ⋯ ⋯ ⋯ ⋯) ⋯)),yao))))))<=<(~~~((@zaq _ _ _ _ ((pv 2)>=>(pv 1)>=>yab>=>zab))⁻¹))),?_⟩
 try dsimp only[cxOf]
 refine⟨szl 0,λg hg=>?_⟩;have g1:Same H (upd H g (.lst [])):=yaa hg _;refine⟨_,_,rfl,?_⟩;refine⟨_,rfl,_,rfl,a,_,rfl,g1.seq ha,λl hl=>?_⟩;generalize hcut:cutV (ns.map V.int) none (some 40)=cs;have hcs:∀x∈cs,∃i:Int,x = .int i:=λx hx=>by
  rw[<-hcut]at hx;unfold cutV at hx;obtain⟨i,_,e⟩:=List.mem_map.mp (List.mem_of_mem_drop (List.mem_of_mem_take hx));exact⟨i,e.symm⟩
 have hlen:cs.length<=40:=by
  rw[<-hcut];unfold cutV;rw[List.length_take,show HT.sIx (ns.map V.int).length (ns.map V.int).length (some 40)=min 40 (ns.map V.int).length from HT.sIx_nat _ _ 40]
  lia
 have hgl:l≠g:=λe=>by rw[e,zaa]at hl;cases hl
 refine⟨l,rfl,⟨_,SqL.of zaa⟩,ydF (xs:=cs) (λi σ H'=>(Ex3 λ(s:Nat) (x:Option V) (gs:List Nat)=>gs.length<=i/\σ=[some (.ref a),some (Vn s),some (.ref g),x]/\H' g=some (.lst (gs.map Vn)))/\Same H H'/\H' l=some (.lst cs))
  ⟨⟨7,none,[],Nat.le_refl _,rfl,by rw[zad (Ne.symm hgl)];exact zaa⟩,g1.trans (yaa hl _),zaa⟩ ?_ ?_ ?_⟩
 ·rintro i σ H' hi ⟨_,_,h⟩;exact SqL.of h
 ·rintro i x σ H' hx ⟨⟨s,x0,gs,hgs,rfl,hg'⟩,sm,hl'⟩;obtain⟨c,rfl⟩:=hcs x (List.mem_of_getElem? hx);have hi:i<cs.length:=(List.getElem?_eq_some_iff.mp hx).1
  walk_at "rd"
  refine⟨.inr ⟨by decide,by decide⟩,?_⟩
  walk_at "rd"
  refine⟨by show(0:Int)<2305843009213693951;decide,?_⟩
  walk_at "rd"
  refine⟨by show(0:Int)<2305843009213693951;decide,?_⟩;obtain⟨s',es⟩:=zg5 (i:=((s:Int)*1000003+c%2305843009213693951+12345)%2305843009213693951) (Int.emod_nonneg _ (by decide));dsimp only[zaj];rw[es];refine⟨_,rfl,_,rfl,_,_,rfl,rfl,⟨by decide,by decide,by decide⟩,?_⟩;refine⟨_,_,rfl,rfl,_,rfl,?_⟩;refine ite2 (λc2=>?_) (λc2=>?_)
  ·refine⟨_,rfl,.inl ⟨rfl,_,SqL.of hg'⟩,?_⟩;refine⟨_,rfl,_,rfl,_,_,rfl,rfl,⟨by decide,by decide,by decide⟩,?_⟩;refine⟨_,_,rfl,rfl,⟨by decide,by decide,by decide⟩,?_⟩;refine⟨_,_,rfl,rfl,IntMulOk.of_bits (by decide +kernel) (by decide +kernel),?_⟩;refine⟨_,_,rfl,rfl,by show(0:Int)<10^Int.toNat 60*10^Int.toNat 60;decide +kernel,?_⟩;obtain⟨d,ed⟩:=zg5 (i:=(if c<0 then -c else c)%(10^(60:Int).toNat*10^(60:Int).toNat)) (Int.emod_nonneg _ (by decide))
   (try dsimp only);rw[ed]
   refine⟨g,_,_,rfl,rfl,hg',?_,⟨s',some (.int c),gs++[d],by simp;lia,rfl,by rw[zaa,List.map_append];rfl⟩,?_,?_⟩
   ·rw[List.length_map];exact Nat.lt_of_le_of_lt (show gs.length<=1000 by lia) (zai (Nat.le_refl _))
   ·intro b o e;rw[zad (yac e hg)];exact sm b o e
   ·rw[zad hgl];exact hl'
  ·exact⟨⟨s',some (.int c),gs,by lia,rfl,hg'⟩,sm,hl'⟩
 ·rintro σ H' ⟨⟨s,x,gs,hgs,rfl,hg'⟩,sm,_⟩;refine⟨_,rfl,_,rfl,szl 3,λr hr=>?_⟩;have ne:g≠r:=yac hg' hr;refine q r g _ (sm.free hr) hg (sm.trans (yaa hr _)) ⟨gs,s,0,zaa,?_⟩;rw[zad ne];exact hg'
theorem zdn{α:Type}(x:α)(xs:List α):atI (x::xs) 0=some x:=zaz (j:=0) rfl
theorem ze8{n:Nat}(h:0<n):ixN n 0=some 0:=by
 unfold ixN;rw[if_pos (by decide),if_pos (by lia)];rfl
theorem ybt(Ex:St->Hp->Prop)(r:∀σ' H',Ex σ' H'->u D σ' H')(h:∀D':Ends,D'.rt=D.rt->D'.bk=D.bk->D'.ct=D.ct->(∀σ' H',Ex σ' H'->D'.nx σ' H')->t D' σ H):tSeq t u D σ H:=h _ rfl rfl rfl r
inductive zcN (vs:List V) (H:Hp) (Q:VK) (E:XK):Prop
 |mk (a g:Addr) (n:Nat) (c1:vs=[.ref a,Vn n]) (c2:Pu H a g) (c3:0<n) (c4:n<2^200) (c5:∀(r:Nat) H',r<n->Pu H' a g->yar a g H H'->Q (Vn r) H'):zcN vs H Q E
def ydO(H:Hp)(g:Addr):Nat:=match H g with
 |some (.lst xs)=>xs.length
 |_=>0
theorem zcv{xs:List V}(h:H g=some (.lst xs)):ydO H g=xs.length:=by unfold ydO;rw[h]
theorem modn{x:Int}{n:Nat}(h:0<n):∃r:Nat,r<n/\V.int (x%(n:Int))=Vn r:=by
 have h1:=Int.emod_nonneg x (show(n:Int)≠0 by lia);have h2:=Int.emod_lt_of_pos x (show(0:Int)<n by lia);exact⟨(x%(n:Int)).toNat,by lia,by show V.int _=V.int _;congr 1;lia⟩
theorem zaK:yad ["_law_purse_here","_law_many","_law_digit","_law_turn","_law_prime","_law_once","_law_mixed"] ["_law_purse_here","_law_many"] (zac ybP):=⟨rfl,rfl,rfl,by decide +kernel,rfl,by decide +kernel,by decide +kernel⟩
theorem zhX(B:Bl mg)(F:Fun K "_law_pick" "_law_pick" ybP f fd):FnOk P w K mg base CX0 1 f fd ["_law_purse_here","_law_many"] zcN:=by
 refine F.ok zaK (λvs H Q E h=>?_) (λcdv A outer s H vs Q E hr h=>?_)
 ·obtain⟨a,g,n,rfl,_⟩:=h;rfl
 obtain⟨a,g,n,rfl,hP,hn,hn2,q⟩:=h;have nag:=hP.ne;refine⟨_,((@yaC _ _ _ _ _ _ PassesOwn.never (@PW.pt _ _ _ (@yg4 _ _ _ _ _ _ _ ((yg6 hr.units0)∪(yah<<<(pv 0)<<<yab)∪(@zaq _ _ _ _ zab)) (@ygl _ _ _ _ (zbN∪(yah<<<(yah<<<(pv 0)<<<yab)<<<yab)∪yab)))) (~~~(@zcj _ _ _ _ (@yfp _ _ _ _ _ _ _ _ _ _ _ _ PySem.F.plainAttrs_list PySem.F.slot_list_pop PySem.F.type_list_pop zgC (yah<<<(pv 0)<<<yab) (yab>=>zab) ⋯ ⋯ ⋯ ⋯ ⋯) ⋯)))<=<(((yg6 hr.units0)∪(yah<<<(pv 0)<<<yab)∪(@zaq _ _ _ _ zab))*>(((2<|>zaK.nd<|>(zax|||(yah<<<(yah<<<(pv 0)<<<yab)<<<yab)|||(pv 1)))<=<(@zbO _ _ _ _ _ _ (zhf|||(yah<<<(yah<<<(pv 0)<<<yab)<<<yab)|||(pv 1)) (@zca _ _ _ _ _ _ _ (yah<<<(pv 0)<<<yab) yab zaP (by intro _;rfl)) ⋯ ⋯ ⋯)<=<(~~~((pv 2)⁻¹))),yao))<=<(@zbO _ _ _ _ _ _ (yag|||(yah<<<(pv 0)<<<yab)|||yab) (@zca _ _ _ _ _ _ _ (pv 0) yab zaP (by intro _;rfl)) ⋯ ⋯ ⋯)<=<(3<|>zaK.nd<|>(yah<<<(pv 0)<<<yab))<=<(4<|>zaK.nd<|>(yah<<<(@zaq _ _ _ _ (yab>=>yab>=>yab>=>yab>=>yab>=>yab>=>yab>=>zab))<<<(zax|||(pv 3)|||yab)))<=<(5<|>zaK.nd<|>(zax|||(yag|||(yah<<<(pv 0)<<<yab)|||(zav|||yab|||(pv 3)))|||yab))<=<(6<|>zaK.nd<|>(zav|||(zax|||(zdU|||(pv 5)|||yab)|||yab)|||(yag|||(zav|||yab|||(pv 3))|||yab)))<=<(~~~((zax|||(zcl|||(zax|||(yag|||(pv 6)|||(zcl|||(yah<<<(pv 0)<<<yab)|||yab))|||(pv 4))|||yab)|||(pv 1))⁻¹))),?_⟩
 try dsimp only[cxOf]
 let I1:St->Hp->Prop:=λσ H'=>An3 (σ=[some (.ref a),some (Vn n),none,none,none,none,none]) (Pu H' a g) (yar a g H H')
 refine ybt I1 ?_ ?_
 ·rintro σ H' ⟨rfl,⟨ns,x,t,ha,hg⟩,sm⟩
  let I2:St->Hp->Prop:=λσ H1=>ns=[]/\σ=[some (.ref a),some (Vn n),none,none,none,none,none]/\H1 a=some (.lst [.ref g,Vn x,Vn t])/\H1 g=some (.lst [])/\yar a g H H1
  refine ybt I2 ?_ ?_
  ·rintro σ H1 ⟨rfl,rfl,ha,hg,sm⟩;refine⟨_,rfl,a,_,_,_,rfl,rfl,SqL.of ha,rfl,?_⟩;refine⟨_,_,rfl,rfl,?_⟩;refine⟨_,rfl,a,_,2,2,rfl,rfl,ha,rfl,?_⟩;have h1:(upd H1 a (.lst [.ref g,Vn x,.int ((t:Int)+1)])) a=some (.lst [.ref g,Vn x,Vn (t+1)]):=zaa;have h2:(upd H1 a (.lst [.ref g,Vn x,.int ((t:Int)+1)])) g=some (.lst []):=by rw[zad (Ne.symm nag)];exact hg
   have h3:yar a g H (upd H1 a (.lst [.ref g,Vn x,.int ((t:Int)+1)])):=λb o n1 n2 e=>by rw[zad n1];exact sm b o n1 n2 e
   change tSeq _ _ _ _ (upd H1 a (.lst [.ref g,Vn x,.int ((t:Int)+1)]));generalize upd H1 a (.lst [.ref g,Vn x,.int ((t:Int)+1)])=H2 at h1 h2 h3 ⊢;refine⟨_,rfl,a,_,_,_,rfl,rfl,SqL.of h1,rfl,?_⟩;refine⟨szl 7,λl hl=>?_⟩;have nla:a≠l:=yac h1 hl;have nlg:g≠l:=yac h2 hl;refine⟨_,rfl,_,_,rfl,rfl,by show(0:Int)<7;decide,?_⟩;obtain⟨k,hk,ek⟩:=modn (x:=((t+1:Nat):Int)) (n:=7) (by lia);have hprime:∃pr:Nat,61<pr/\atI [V.int 2147483629,.int 2147483587,.int 2147483579,.int 2147483563,.int 2147483549,.int 2147483543,.int 2147483497] (k:Int)=some (Vn pr):=by
    have:k=0\/k=1\/k=2\/k=3\/k=4\/k=5\/k=6:=by lia
    rcases this with rfl|rfl|rfl|rfl|rfl|rfl|rfl
    ·exact⟨2147483629,by decide,rfl⟩
    ·exact⟨2147483587,by decide,rfl⟩
    ·exact⟨2147483579,by decide,rfl⟩
    ·exact⟨2147483563,by decide,rfl⟩
    ·exact⟨2147483549,by decide,rfl⟩
    ·exact⟨2147483543,by decide,rfl⟩
    ·exact⟨2147483497,by decide,rfl⟩
   obtain⟨pr,hpr,epr⟩:=hprime;have ek':((t+1:Nat):Int)%(7:Int)=(k:Int):=by have:=V.int.inj ek;exact this
   refine⟨l,_,k,Vn pr,rfl,ek,SqL.of zaa,epr,?_⟩;have h1':(upd H2 l (.lst [V.int 2147483629,.int 2147483587,.int 2147483579,.int 2147483563,.int 2147483549,.int 2147483543,.int 2147483497])) a=some (.lst [.ref g,Vn x,Vn (t+1)]):=by rw[zad nla];exact h1
   have h2':(upd H2 l (.lst [V.int 2147483629,.int 2147483587,.int 2147483579,.int 2147483563,.int 2147483549,.int 2147483543,.int 2147483497])) g=some (.lst []):=by rw[zad nlg];exact h2
   have h3':yar a g H (upd H2 l (.lst [V.int 2147483629,.int 2147483587,.int 2147483579,.int 2147483563,.int 2147483549,.int 2147483543,.int 2147483497])):=h3.trans (Same.x (yaa hl _));change tSeq _ _ _ _ (upd H2 l (.lst [V.int 2147483629,.int 2147483587,.int 2147483579,.int 2147483563,.int 2147483549,.int 2147483543,.int 2147483497]));generalize upd H2 l (.lst [V.int 2147483629,.int 2147483587,.int 2147483579,.int 2147483563,.int 2147483549,.int 2147483543,.int 2147483497])=H3 at h1' h2' h3' ⊢;refine⟨_,rfl,a,_,_,_,rfl,rfl,SqL.of h1',rfl,?_⟩;refine⟨_,rfl,_,_,rfl,rfl,.inl ⟨by decide,by decide⟩,?_⟩;refine⟨_,_,rfl,rfl,?_⟩;refine⟨_,_,rfl,rfl,by show(0:Int)<2147483647;decide,?_⟩;obtain⟨on,hon,eon⟩:=modn (x:=(x:Int)+65537*((t+1:Nat):Int)) (n:=2147483647) (by decide);dsimp only[zaj];rw[show V.int (((x:Int)+65537*((t+1:Nat):Int))%2147483647)=Vn on from eon];refine⟨_,rfl,_,_,rfl,rfl,⟨by decide,by decide,by show(on:Int).natAbs<2^64;lia⟩,?_⟩;refine⟨_,_,rfl,rfl,by show(0:Int)<2147483647;decide,?_⟩;obtain⟨o5,ho5,eo5⟩:=modn (x:=(on:Int)^(5:Int).toNat) (n:=2147483647) (by decide);refine⟨_,rfl,_,_,rfl,rfl,.inl ⟨by decide,by decide⟩,?_⟩;refine⟨_,_,rfl,rfl,?_⟩;have b5:(on:Int)^(5:Int).toNat%2147483647=(o5:Int):=V.int.inj eo5;refine⟨_,_,rfl,rfl,.inl ⟨by rw[b5];lia,by rw[b5];lia⟩,?_⟩;refine⟨_,rfl,_,rfl,a,_,_,_,rfl,rfl,SqL.of h1',rfl,?_⟩;refine⟨_,_,rfl,rfl,⟨by show(0:Int)<2147483647;decide,by show(2147483647:Int)<2^64;decide⟩,?_⟩;refine⟨_,_,rfl,rfl,?_⟩;refine⟨_,rfl,_,_,rfl,rfl,by show(0:Int)<(pr:Int);lia,?_⟩;refine⟨_,_,rfl,rfl,⟨by show(0:Int)<61;decide,by show(61:Int)<2^64;decide⟩,?_⟩;refine⟨_,rfl,_,_,rfl,rfl,by show(0:Int)<(n:Int);lia,?_⟩;obtain⟨r,hr',er⟩:=modn (x:=((on:Int)^(5:Int).toNat%2147483647*(2*((t+1:Nat):Int)+1)+(x:Int)/2147483647)%(pr:Int)/61) hn;dsimp only;rw[er];exact q r H3 hr' ⟨[],x,t+1,h1',h2'⟩ h3'
  ·intro D' hrt _ _ hD;refine⟨_,rfl,a,_,_,_,rfl,rfl,SqL.of ha,rfl,szl 0,λl hl=>?_⟩;have nla:a≠l:=yac ha hl;have nlg:g≠l:=yac hg hl;have hg1:(upd H' l (.lst [])) g=some (.lst (ns.map Vn)):=by rw[zad nlg];exact hg
   have ha1:(upd H' l (.lst [])) a=some (.lst [.ref g,Vn x,Vn t]):=by rw[zad nla];exact ha
   have sm1:yar a g H (upd H' l (.lst [])):=sm.trans (Same.x (yaa hl _));refine⟨g,l,_,rfl,rfl,SqL.of hg1,SqL.of zaa,_,rfl,?_⟩;refine ite2 (λc=>?_) (λc=>?_)
   ·cases ns with
    |nil=>exact absurd c (by simp)
    |cons d ns=>
     refine⟨_,rfl,a,_,_,_,rfl,rfl,SqL.of ha1,rfl,?_⟩;refine⟨g,_,_,_,rfl,rfl,SqL.of hg1,zdn _ _,?_⟩;refine⟨_,rfl,_,_,rfl,rfl,by show(0:Int)<(n:Int);lia,?_⟩;refine⟨_,rfl,a,_,_,_,rfl,rfl,SqL.of ha1,rfl,?_⟩;refine⟨g,_,_,_,rfl,rfl,SqL.of hg1,zdn _ _,?_⟩;refine⟨_,rfl,_,_,rfl,rfl,⟨by show(0:Int)<(n:Int);lia,by show(n:Int)<2^1000;lia⟩,?_⟩;refine⟨_,rfl,a,_,_,_,rfl,rfl,SqL.of ha1,rfl,?_⟩;refine⟨g,_,0,0,rfl,rfl,hg1,ze8 (by simp),?_⟩;refine⟨_,rfl,?_⟩;rw[hrt];refine q (d%n) _ (Nat.mod_lt _ hn) ⟨(d/n)::ns,x,t,by rw[zad nag];exact ha1,zaa⟩ λb o n1 n2 e=>by rw[zad n2];exact sm1 b o n1 n2 e
   ·cases ns with
    |nil=>exact hD _ _ ⟨rfl,rfl,ha1,hg1,sm1⟩
    |cons d ns=>exact absurd (by simp) c
 ·intro D' _ _ _ hD
  let I3:St->Hp->Prop:=λσ H'=>An3 (σ=[some (.ref a),some (Vn n),none,none,none,none,none]) (Pu H' a g) (yar a g H H')
  refine yaD I3 (λ_ H'=>ydO H' g) ⟨rfl,hP,yar.refl⟩ ?_;rintro σ H' ⟨rfl,⟨ns,x,t,ha,hg⟩,sm⟩;refine⟨_,rfl,a,_,_,_,rfl,rfl,SqL.of ha,rfl,szl 0,λl hl=>?_⟩;have nla:a≠l:=yac ha hl;have nlg:g≠l:=yac hg hl;have hg1:(upd H' l (.lst [])) g=some (.lst (ns.map Vn)):=by rw[zad nlg];exact hg
  have ha1:(upd H' l (.lst [])) a=some (.lst [.ref g,Vn x,Vn t]):=by rw[zad nla];exact ha
  have sm1:yar a g H (upd H' l (.lst [])):=sm.trans (Same.x (yaa hl _));refine⟨g,l,_,rfl,rfl,SqL.of hg1,SqL.of zaa,_,rfl,?_⟩;refine ite2 (λc=>?_) (λc=>?_)
  ·cases ns with
   |nil=>exact absurd c (by simp)
   |cons d ns=>
    refine⟨_,rfl,a,_,_,_,rfl,rfl,SqL.of ha1,rfl,?_⟩;refine⟨g,_,_,_,rfl,rfl,SqL.of hg1,zdn _ _,?_⟩;refine⟨rfl,_,rfl,?_⟩;refine ite2 (λc=>?_) (λc=>?_)
    ·refine⟨λσ' H''=>σ'=[some (.ref a),some (Vn n),none,none,none,none,none]/\H''=upd (upd H' l (.lst [])) g (.lst (ns.map Vn)),?_,?_⟩
     ·rintro σ' H'' ⟨rfl,rfl⟩;refine⟨_,?_,rfl,rfl,⟨ns,x,t,by rw[zad nag];exact ha1,zaa⟩,λb o n1 n2 e=>by rw[zad n2];exact sm1 b o n1 n2 e⟩;rw[zcv hg,zcv (xs:=ns.map Vn) zaa];simp
     ·refine⟨_,rfl,a,_,_,_,rfl,rfl,SqL.of ha1,rfl,.inl ⟨rfl,_,SqL.of hg1⟩,?_⟩;exact⟨g,_,0,0,Vn d,rfl,rfl,hg1,by decide,by decide,(yet (ze8 (by simp))).1,rfl,rfl,rfl⟩
    ·exact hD _ _ ⟨rfl,⟨d::ns,x,t,ha1,hg1⟩,sm1⟩
  ·refine ite2 (λc2=>absurd c2 (by decide)) (λ_=>?_);exact hD _ _ ⟨rfl,⟨ns,x,t,ha1,hg1⟩,sm1⟩
end
end My
end
section
namespace My
open PySem L2 Dg
local macro_rules | `(tactic| walk_at "rd") => `(tactic| repeat (first | refine ⟨_, rfl, ?_⟩ | refine ⟨_, _, rfl, rfl, ?_⟩))
def sumN:Nat->(Nat->Nat)->Nat
 |0,_=>0
 |n+1,g=>sumN n g+g n
theorem ydc:∀(n:Nat) (g:Nat->Nat),sumN (n+1) g=g 0+sumN n λj=>g (j+1)
 |0,g=>by simp[sumN]
 |n+1,g=>by rw[sumN,ydc n g,sumN];lia
theorem yfd{n:Nat}{g h:Nat->Nat}(e:∀j,j<n->g j=h j):sumN n g=sumN n h:=by
 induction n with
 |zero=>rfl
 |succ n ih=>rw[sumN,sumN,ih λj hj=>e j (by lia),e n (by lia)]
def shN(j:Nat)(y:Nat->Nat)(i:Nat):Nat:=if j<=i then y (i-j) else 0
theorem zd1:∀(k:Nat) (f y:Nat->Nat) (i:Nat),ydu k f y i=sumN k λj=>f j*shN j y i
 |0,_,_,_=>rfl
 |k+1,f,y,i=>by
  rw[ydc];show f 0*y i+yaE (ydu k (λj=>f (j+1)) y) i=f 0*shN 0 y i+_;congr 1;unfold yaE;by_cases h:i=0
  ·rw[if_pos h];subst h;have:∀n,sumN n (λj=>f (j+1)*shN (j+1) y 0)=0:=λn=>by
    induction n with
    |zero=>rfl
    |succ n ih=>rw[sumN,ih];unfold shN;rw[if_neg (by lia)];simp
   exact(this k).symm
  ·rw[if_neg h,zd1 k];refine yfd λj _=>?_
   congr 1;unfold shN;by_cases h2:j+1<=i
   ·rw[if_pos h2,if_pos (by lia)];congr 1;lia
   ·rw[if_neg h2,if_neg (by lia)]
def rowL(p n:Nat)(c:Nat->Nat):List V:=(List.range n).map λi=>Vn (c i%p)
theorem ybJ(p n:Nat)(c:Nat->Nat):(rowL p n c).length=n:=by simp[rowL]
theorem ydE{p n:Nat}(c:Nat->Nat){i:Nat}(h:i<n):(rowL p n c)[i]?=some (Vn (c i%p)):=by
 unfold rowL;rw[List.getElem?_map,List.getElem?_range h];rfl
theorem zeE{p n:Nat}(c:Nat->Nat){i:Nat}{j:Int}(h:i<n)(e:j=(i:Int)):atI (rowL p n c) j=some (Vn (c i%p)):=by
 subst e;exact zaz (ydE c h)
theorem ybj{p n:Nat}{c c':Nat->Nat}(h:∀i,i<n->c i%p=c' i%p):rowL p n c=rowL p n c':=by
 unfold rowL;refine List.map_congr_left λi hi=>?_
 rw[h i (List.mem_range.mp hi)]
theorem ygJ{p n:Nat}(c:Nat->Nat){s v:Nat}(h:s<n):(rowL p n c).set s (Vn (v%p))=rowL p n λi=>if i=s then v else c i:=by
 refine List.ext_getElem? λi=>?_
 by_cases hi:i<n
 ·rw[ydE _ hi,List.getElem?_set];by_cases e:s=i
  ·subst e;rw[if_pos rfl,if_pos (by rw[ybJ];exact hi),if_pos rfl]
  ·rw[if_neg e,ydE _ hi,if_neg (Ne.symm e)]
 ·rw[List.getElem?_eq_none (by rw[List.length_set,ybJ];lia),List.getElem?_eq_none (by rw[ybJ];lia)]
theorem yfV{p n:Nat}{c:Nat->Nat}{s v:Nat}(h:s<n){c':Nat->Nat}(hc:∀i,i<n->c' i%p=(if i=s then c s%p+v else c i)%p):(rowL p n c).set s (Vn ((c s%p+v)%p))=rowL p n c' :=
 (ygJ c h).trans (ybj λi hi=>(hc i hi).symm)
theorem yfu{n s:Nat}{j:Int}(h:s<n)(e:j=(s:Int)):ixN n j=some s:=by
 subst e;unfold ixN;rw[if_pos (by lia),if_pos (by lia)];simp
theorem ygA(p k:Nat)(hp:0<p):(List.replicate k [V.int 0]).flatten=rowL p k λ_=>0:=by
 induction k with
 |zero=>rfl
 |succ k ih=>
  rw[List.replicate_succ',List.flatten_append,ih];unfold rowL;rw[List.range_succ,List.map_append];simp
section
variable {P:Program} {w:World} {mg:Str->Option Value} {base:Heap} {f:Addr} {fd:FuncData}
inductive ybI (K:PySem.W.Frag) (vs:List V) (H:Hp) (Q:VK) (E:XK):Prop
 |mk (a:Addr) (p m t x y:Nat) (c1:vs=[.ref a,.int x,.int y]) (c2:Fld K H a p m t) (c3:2<=p) (c4:1<=m) (c5:p^m<=64) (c6:t<p^m) (c7:x<p^m) (c8:y<p^m) (c9:∀(r:Nat) H',Same H H'->r<p^m->(∀i,i<m->dg p i r=tn m (λi=>dg p i t) m (λi=>dg p i x) (λi=>dg p i y) i%p)->Q (.int r) H'):ybI K vs H Q E
theorem ydl{p m x i:Nat}(h:i<m):(digL p m x)[i]?=some (Vn (dg p i x)):=by
 unfold digL;rw[List.getElem?_map,List.getElem?_range h];rfl
theorem zf7(h:yar l l H H'):yar l l H (upd H' l o):=λb u n1 n2 e=>by rw[zad n1];exact h b u n1 n2 e
theorem zf1(h:yar l l H H')(hp:H' p=none):yar l l H (upd H' p o):=h.trans (Same.x (yaa hp o))
theorem zdt(h:yar l l H H')(hl:H l=none):Same H H':=λb o e=>h b o (yac e hl) (yac e hl) e
theorem zaf:yad ["_law_field_here","_law_one","_law_other","_law_p","_law_m","_law_top","_law_row","_law_j","_law_digit","_law_k","_law_by","_law_place","_law_at"] ["_law_field_here","_law_one","_law_other"] (zac ybb):=⟨rfl,rfl,rfl,by decide +kernel,rfl,by decide +kernel,by decide +kernel⟩
theorem yfm(B:Bl mg)(h__law_digits:Has P w K mg base 1 "_law_digits" ["_law_field_here","_law_thing"] (zcQ K))(h__law_number:Has P w K mg base 1 "_law_number" ["_law_field_here","_law_digits_here"] (ycW K))(F:Fun K "_law_product" "_law_product" ybb f fd):FnOk P w K mg base CX0 2 f fd ["_law_field_here","_law_one","_law_other"] (ybI K):=by
 refine F.ok zaf (λvs H Q E h=>?_) (λcdv A outer s H vs Q E hr h=>?_)
 ·obtain⟨a,p,m,t,x,y,rfl,_⟩:=h;rfl
 obtain⟨a,p,m,t,x,y,rfl,hF,hp,hm,hpm,ht,hx,hy,q⟩:=h;have hp2:=p_le hp hm hpm;have hm6:=m_le hp hpm;refine⟨_,(((pv 0)≈((3&&&zaf.nd)∩((4&&&zaf.nd)∩((5&&&zaf.nd)∩yav))))<=<(6<|>zaf.nd<|>(zcn|||(@zaq _ _ _ _ (yab>=>zab))|||(yan|||(zav|||yab|||(pv 4))|||yab)))<=<((@ybw _ _ _ _ _ _ _ _ rfl (B "enumerate" (by decide)) ((h__law_digits<$>((pv 0)>=>(pv 1)>=>zab))>=>zab) ⋯)<&>((@ycb _ _ _ _ _ _ rfl ((7&&&zaf.nd)∩((8&&&zaf.nd)∩yav)) ⋯ ⋯),(~~~((@ybw _ _ _ _ _ _ _ _ rfl (B "enumerate" (by decide)) ((h__law_digits<$>((pv 0)>=>(pv 2)>=>zab))>=>zab) ⋯)<&>((@ycb _ _ _ _ _ _ rfl ((9&&&zaf.nd)∩((10&&&zaf.nd)∩yav)) ⋯ ⋯),(~~~(@zbO _ _ _ _ _ _ (zax|||(yag|||(yah<<<(pv 6)<<<(yag|||(pv 7)|||(pv 9)))|||(zav|||(pv 8)|||(pv 10)))|||(pv 3)) (@zca _ _ _ _ _ _ _ (pv 6) (yag|||(pv 7)|||(pv 9)) zaP (by intro _;rfl)) ⋯ ⋯ ⋯)))))))<=<((@zhi _ _ _ _ _ _ _ _ rfl (B "range" (by decide)) ((yan|||(zav|||yab|||(pv 4))|||yab)>=>(yan|||(pv 4)|||yab)>=>(@yfk _ _ _ _ _ _ ydh yab)>=>zab) ⋯ ⋯)<&>((11&&&zaf.nd),(~~~((@ybw _ _ _ _ _ _ _ _ rfl (B "enumerate" (by decide)) ((h__law_digits<$>((pv 0)>=>(pv 5)>=>zab))>=>zab) ⋯)<&>((@ycb _ _ _ _ _ _ rfl ((9&&&zaf.nd)∩((8&&&zaf.nd)∩yav)) ⋯ ⋯),((12<|>zaf.nd<|>(yag|||(yan|||(pv 11)|||(pv 4))|||(pv 9)))<=<(~~~(@zbO _ _ _ _ _ _ (zax|||(yag|||(yah<<<(pv 6)<<<(pv 12))|||(zav|||(yah<<<(pv 6)<<<(pv 11))|||(pv 8)))|||(pv 3)) (@zca _ _ _ _ _ _ _ (pv 6) (pv 12) zaP (by intro _;rfl)) ⋯ ⋯ ⋯))))))))<=<(~~~((h__law_number<$>((pv 0)>=>(@zcw _ _ _ _ _ _ _ _ _ _ zei (pv 6) zeo (@zcO _ _ _ (pv 4)))>=>zab))⁻¹))),?_⟩
 try dsimp only[cxOf]
 refine⟨_,rfl,a,_,rfl,hF,rfl,_,_,rfl,_,_,rfl,_,_,rfl,rfl,?_⟩;refine⟨szl 1,λl0 hl0=>?_⟩;refine⟨_,rfl,_,_,rfl,rfl,.inl ⟨by decide,by decide⟩,?_⟩;refine⟨_,_,rfl,rfl,?_⟩;have e21:(2*(m:Int)-1).toNat=2*m-1:=by lia
 refine⟨l0,_,_,rfl,rfl,zaa,by show -(2^63)<=2*(m:Int)-1;lia,by show 2*(m:Int)-1<2^63;lia,?_,λl hl=>?_⟩
 ·show 1*(2*(m:Int)-1).toNat<=sizeLine;rw[e21];exact szl _
 dsimp only;rw[e21,ygA p _ (by lia)];have hlH:H l=none:=(yaa hl0 (.lst [.int 0])).free hl
 let I1:St->Hp->Prop:=λσ H'=>Ex6 λs7 s8 s9 s10 s11 s12=>An3 (σ=[some (.ref a),some (Vn x),some (Vn y),some (Vn p),some (Vn m),some (Vn t),some (.ref l),s7,s8,s9,s10,s11,s12]) (yar l l H H') (H' l=some (.lst (rowL p (2*m-1) (ydu m (λi=>dg p i x) λi=>dg p i y))))
 refine ybt I1 ?_ ?_
 ·rintro σ H' ⟨s7,s8,s9,s10,s11,s12,rfl,sx,hrow⟩
  let I2:St->Hp->Prop:=λσ H'=>Ex6 λs7 s8 s9 s10 s11 s12=>An3 (σ=[some (.ref a),some (Vn x),some (Vn y),some (Vn p),some (Vn m),some (Vn t),some (.ref l),s7,s8,s9,s10,s11,s12]) (yar l l H H') (∃c:Nat->Nat,H' l=some (.lst (rowL p (2*m-1) c))/\∀i,i<m->c i=tn m (λi=>dg p i t) m (λi=>dg p i x) (λi=>dg p i y) i)
  refine ybt I2 ?_ ?_
  ·rintro σ H' ⟨s7,s8,s9,s10,s11,s12,rfl,sx,c,hrow,hc⟩;refine⟨_,rfl,_,rfl,_,rfl,_,rfl,l,_,rfl,SqL.of hrow,λl2 hl2=>?_⟩;have sm2:Same H (upd H' l2 (.lst (cutV (rowL p (2*m-1) c) none (some (m:Int))))):=(zdt sx hlH).trans (yaa hl2 _);refine⟨a,l2,p,m,t,(List.range m).map λi=>c i%p,rfl,Same.tup sm2 hF,hp,hp2,?_,λH3 s3=>?_⟩
   ·refine SqL.of ?_;rw[zaa];congr 2;unfold cutV;rw[HT.sIx_none,show HT.sIx (rowL p (2*m-1) c).length (rowL p (2*m-1) c).length (some (m:Int))=min m (rowL p (2*m-1) c).length from HT.sIx_nat _ _ m,ybJ,List.drop_zero,show min m (2*m-1)-0=m by lia];unfold rowL;rw[<-List.map_take,List.take_range,List.map_map,show min m (2*m-1)=m by lia];rfl
   ·have hds:∀d∈(List.range m).map (λi=>c i%p),d<p:=λd hd=>by
     obtain⟨i,_,rfl⟩:=List.mem_map.mp hd;exact Nat.mod_lt _ (by lia)
    have hg:∀i,((List.range m).map λi=>c i%p).getD i 0=if i<m then c i%p else 0:=λi=>by
     by_cases hi:i<m
     ·rw[if_pos hi,List.getD,List.getElem?_map,List.getElem?_range hi];rfl
     ·rw[if_neg hi,List.getD,List.getElem?_eq_none (by simpa using hi)];rfl
    refine q _ _ (sm2.trans s3) (zce hp λi hi=>?_) λi hi=>?_
    ·rw[ygg hp _ hds,hg,if_neg (by lia)]
    ·rw[ygg hp _ hds,hg,if_pos hi,hc i hi]
  ·intro D' _ _ _ hD;refine⟨_,rfl,_,_,rfl,rfl,.inl ⟨by decide,by decide⟩,?_⟩;refine⟨_,_,rfl,rfl,?_⟩;refine⟨_,rfl,_,_,rfl,rfl,?_⟩;refine⟨_,rfl,?_⟩;refine⟨2*(m:Int)-2,(m:Int)-1,rfl,⟨by lia,by lia,by lia,by lia⟩,?_⟩
   let I3:Nat->St->Hp->Prop:=λi σ H'=>Ex6 λs7 s8 s9 s10 s11 s12=>An3 (σ=[some (.ref a),some (Vn x),some (Vn y),some (Vn p),some (Vn m),some (Vn t),some (.ref l),s7,s8,s9,s10,s11,s12]) (yar l l H H') (∃c:Nat->Nat,H' l=some (.lst (rowL p (2*m-1) c))/\redF m (λi=>dg p i t) (m-1-i) c=redF m (λi=>dg p i t) (m-1) (ydu m (λi=>dg p i x) λi=>dg p i y))
   refine yaG yed I3 ⟨s7,s8,s9,s10,s11,s12,rfl,sx,_,hrow,rfl⟩ (λ_ _ _ _ _=>trivial) ?_ ?_
   ·rintro i v σ H' H'' hi ⟨s7,s8,s9,s10,s11,s12,rfl,sx,c,hrow,hred⟩ ⟨rfl,rfl⟩;obtain⟨j,hj⟩:∃j,m-1-i=j+1:=⟨m-1-i-1,by lia⟩
    have eq:V.int (2*(m:Int)-2-(i:Int))=Vn (m+j):=by show V.int _=V.int _;congr 1;lia
    have hq:m+j<2*m-1:=by lia
    dsimp only[zaj];rw[eq];refine⟨_,rfl,_,rfl,a,p,m,t,t,rfl,Same.tup (zdt sx hlH) hF,hp,hp2,by lia,λb2 H2 hb2' s2 e2=>?_⟩;have nb2:b2≠l:=λe=>by rw[e,hrow]at hb2';cases hb2'
    refine⟨false,b2,rfl,⟨_,SqL.of e2⟩,?_⟩
    let I4:Nat->St->Hp->Prop:=λk σ H'=>Ex5 λs7 s8 s9 s10 s12=>An4 (σ=[some (.ref a),some (Vn x),some (Vn y),some (Vn p),some (Vn m),some (Vn t),some (.ref l),s7,s8,s9,s10,some (Vn (m+j)),s12]) (yar l l H H') (H' b2=some (.lst (digL p m t))) (H' l=some (.lst (rowL p (2*m-1) λi=>c i+if j<=i/\i<j+k then c (m+j)*dg p (i-j) t else 0)))
    refine yaG (zaV (K:=K) (b:=false) (l:=b2) (xs:=digL p m t)) I4 ⟨s7,s8,s9,s10,s12,rfl,sx.trans (Same.x s2),e2,?_⟩ ?_ ?_ ?_
    ·rw[s2 _ _ hrow];congr 2;refine ybj λi _=>?_
     rw[if_neg (by lia)];rfl
    ·rintro i σ H' _ ⟨s7,s8,s9,s10,s12,rfl,_,h,_⟩;exact SqL.of h
    ·rintro k v σ H' H'' hk ⟨s7,s8,s9,s10,s12,rfl,sx,hc,hrow⟩ ⟨T,u,rfl,eu,hT,rfl⟩;rw[zbr]at hk;rw[ydl hk]at eu;cases eu;refine⟨T,_,rfl,SqT.of zaa,rfl,_,_,rfl,_,_,rfl,rfl,?_⟩;have sx3:yar l l H (upd H' T (.tup [.int k,Vn (dg p k t)])):=zf1 sx hT;have hc3:(upd H' T (.tup [.int k,Vn (dg p k t)])) b2=some (.lst (digL p m t)):=by rw[zad (yac hc hT)];exact hc
     have hr3:=(zad (o:=.tup [.int k,Vn (dg p k t)]) (yac hrow hT)).trans hrow;generalize upd H' T (.tup [.int k,Vn (dg p k t)])=G at sx3 hc3 hr3 ⊢;have hjk:j+k<2*m-1:=by lia
     have hmp:∀z,z%p<p:=λz=>Nat.mod_lt _ (by lia)
     refine⟨_,rfl,_,rfl,_,_,rfl,rfl,?_⟩;refine⟨_,rfl,_,_,rfl,rfl,?_⟩;have eat:V.int (((m+j:Nat):Int)-(m:Int)+((k:Nat):Int))=Vn (j+k):=by show V.int _=V.int _;congr 1;lia
     dsimp only[zaj];rw[eat];refine⟨_,rfl,_,rfl,l,_,_,_,rfl,rfl,SqL.of hr3,zeE _ hjk rfl,?_⟩;refine⟨_,rfl,_,rfl,l,_,_,_,rfl,rfl,SqL.of hr3,zeE _ hq rfl,?_⟩;have hmq:=hmp (c (m+j)+if j<=m+j/\m+j<j+k then c (m+j)*dg p (m+j-j) t else 0);refine⟨_,rfl,_,_,rfl,rfl,.inl ⟨by lia,by lia⟩,?_⟩;refine⟨_,_,rfl,rfl,?_⟩;refine⟨_,rfl,_,_,rfl,rfl,by show(0:Int)<(p:Int);lia,?_⟩;refine⟨_,rfl,_,rfl,?_⟩;refine⟨l,_,_,j+k,rfl,rfl,hr3,yfu (by rw[ybJ];exact hjk) rfl,?_⟩;refine⟨s7,_,_,s10,_,rfl,zf7 sx3,by rw[zad nb2];exact hc3,?_⟩;rw[zaa];congr 2;refine yfV (v:=(c (m+j)+if j<=m+j/\m+j<j+k then c (m+j)*dg p (m+j-j) t else 0)%p*dg p k t) hjk λi hi=>?_
     by_cases e:i=j+k
     ·subst e;rw[if_pos rfl,if_pos (by lia),if_neg (by lia),if_neg (by lia),Nat.add_zero,Nat.add_zero,show j+k-j=k by lia,Nat.mod_add_mod];exact zbo rfl (yds (Nat.mod_mod _ _).symm rfl)
     ·rw[if_neg e];congr 2;by_cases h2:j<=i/\i<j+k
      ·rw[if_pos h2,if_pos (by lia)]
      ·rw[if_neg h2,if_neg (by lia)]
    ·rintro σ H' ⟨s7,s8,s9,s10,s12,rfl,sx,hc,hrow⟩;refine⟨s7,s8,s9,s10,_,s12,rfl,sx,_,hrow,?_⟩;rw[<-hred,hj,show m-1-(i+1)=j by lia];show _=redF m (λi=>dg p i t) j (ybp m (λi=>dg p i t) (m+j) c);congr 1
     funext z
     unfold ybp;rw[zbr,show m+j-m=j by lia];congr 1;by_cases h2:j<=z/\z<j+m
     ·rw[if_pos h2,if_pos (by lia)]
     ·rw[if_neg h2,if_neg (by lia)]
   ·rintro σ H' ⟨s7,s8,s9,s10,s11,s12,rfl,sx,c,hrow,hred⟩;refine hD _ _ ⟨s7,s8,s9,s10,s11,s12,rfl,sx,c,hrow,λi hi=>?_⟩;rw[show m-1-(2*(m:Int)-2-((m:Int)-1)).toNat=0 by lia]at hred;have e:=congrFun hred i;have e2:=zeZ (t:=λi=>dg p i t) hm (m-1) (λi=>dg p i x) (λi=>dg p i y) (λz hz=>zal hp hy hz) i hi;rw[show m-1+1=m by lia]at e2;exact e.trans e2
 ·intro D' _ _ _ hD;refine⟨_,rfl,_,rfl,a,p,m,t,x,rfl,Same.tup ((yaa hl0 _).trans (yaa hl _)) hF,hp,hp2,by lia,λb1 H1 hb1 s1 e1=>?_⟩;have hl1:H1 l=some (.lst (rowL p (2*m-1) λ_=>0)):=s1 _ _ zaa;have nb1:b1≠l:=λe=>by rw[e,zaa]at hb1;cases hb1
  have sx1:yar l l H H1:=Same.x (((yaa hl0 _).trans (yaa hl _)).trans s1);refine⟨false,b1,rfl,⟨_,SqL.of e1⟩,?_⟩
  let I5:Nat->St->Hp->Prop:=λj σ H'=>Ex6 λs7 s8 s9 s10 s11 s12=>An4 (σ=[some (.ref a),some (Vn x),some (Vn y),some (Vn p),some (Vn m),some (Vn t),some (.ref l),s7,s8,s9,s10,s11,s12]) (yar l l H H') (H' b1=some (.lst (digL p m x))) (H' l=some (.lst (rowL p (2*m-1) λi=>sumN j λj'=>dg p j' x*shN j' (λi=>dg p i y) i)))
  refine yaG (zaV (K:=K) (b:=false) (l:=b1) (xs:=digL p m x)) I5 ⟨none,none,none,none,none,none,rfl,sx1,e1,hl1⟩ ?_ ?_ ?_
  ·rintro i σ H' _ ⟨s7,s8,s9,s10,s11,s12,rfl,_,h,_⟩;exact SqL.of h
  ·rintro j v σ H' H'' hj ⟨s7,s8,s9,s10,s11,s12,rfl,sx,hb,hrow⟩ ⟨T,u,rfl,eu,hT,rfl⟩;rw[zbr]at hj;rw[ydl hj]at eu;cases eu;refine⟨T,_,rfl,SqT.of zaa,rfl,_,_,rfl,_,_,rfl,rfl,?_⟩;have sx2:yar l l H (upd H' T (.tup [.int j,Vn (dg p j x)])):=zf1 sx hT;have hb2:(upd H' T (.tup [.int j,Vn (dg p j x)])) b1=some (.lst (digL p m x)):=by rw[zad (yac hb hT)];exact hb
   have hr2:(upd H' T (.tup [.int j,Vn (dg p j x)])) l=some (.lst (rowL p (2*m-1) λi=>sumN j λj'=>dg p j' x*shN j' (λi=>dg p i y) i)):=by rw[zad (yac hrow hT)];exact hrow
   generalize upd H' T (.tup [.int j,Vn (dg p j x)])=G at sx2 hb2 hr2 ⊢;refine⟨_,rfl,_,rfl,a,p,m,t,y,rfl,Same.tup (zdt sx2 hlH) hF,hp,hp2,by lia,λb2 H2 hb2' s2 e2=>?_⟩;have nb2:b2≠l:=λe=>by rw[e,hr2]at hb2';cases hb2'
   refine⟨false,b2,rfl,⟨_,SqL.of e2⟩,?_⟩
   let I6:Nat->St->Hp->Prop:=λk σ H'=>Ex4 λs9 s10 s11 s12=>An5 (σ=[some (.ref a),some (Vn x),some (Vn y),some (Vn p),some (Vn m),some (Vn t),some (.ref l),some (Vn j),some (Vn (dg p j x)),s9,s10,s11,s12]) (yar l l H H') (H' b1=some (.lst (digL p m x))) (H' b2=some (.lst (digL p m y))) (H' l=some (.lst (rowL p (2*m-1) λi=>sumN j (λj'=>dg p j' x*shN j' (λi=>dg p i y) i)+if j<=i/\i<j+k then dg p j x*dg p (i-j) y else 0)))
   refine yaG (zaV (K:=K) (b:=false) (l:=b2) (xs:=digL p m y)) I6 ⟨s9,s10,s11,s12,rfl,sx2.trans (Same.x s2),s2 _ _ hb2,e2,?_⟩ ?_ ?_ ?_
   ·rw[s2 _ _ hr2];congr 2;refine ybj λi _=>?_
    rw[if_neg (by lia)];rfl
   ·rintro i σ H' _ ⟨s9,s10,s11,s12,rfl,_,_,h,_⟩;exact SqL.of h
   ·rintro k v σ H' H'' hk ⟨s9,s10,s11,s12,rfl,sx,hb,hc,hrow⟩ ⟨T,u,rfl,eu,hT,rfl⟩;rw[zbr]at hk;rw[ydl hk]at eu;cases eu;refine⟨T,_,rfl,SqT.of zaa,rfl,_,_,rfl,_,_,rfl,rfl,?_⟩;have sx3:yar l l H (upd H' T (.tup [.int k,Vn (dg p k y)])):=zf1 sx hT;have hb3:(upd H' T (.tup [.int k,Vn (dg p k y)])) b1=some (.lst (digL p m x)):=by rw[zad (yac hb hT)];exact hb
    have hc3:(upd H' T (.tup [.int k,Vn (dg p k y)])) b2=some (.lst (digL p m y)):=by rw[zad (yac hc hT)];exact hc
    have hr3:=(zad (o:=.tup [.int k,Vn (dg p k y)]) (yac hrow hT)).trans hrow;generalize upd H' T (.tup [.int k,Vn (dg p k y)])=G at sx3 hb3 hc3 hr3 ⊢;have d1:=yir hp j x;have hjk:j+k<2*m-1:=by lia
    refine⟨_,rfl,_,rfl,_,rfl,_,_,rfl,rfl,?_⟩;refine⟨l,_,_,_,rfl,rfl,SqL.of hr3,zeE _ hjk rfl,?_⟩;refine⟨_,rfl,_,rfl,_,_,rfl,rfl,.inl ⟨by show -(2^64:Int)<((dg p j x:Nat):Int);lia,by show((dg p j x:Nat):Int)<2^64;lia⟩,?_⟩;refine⟨_,_,rfl,rfl,?_⟩;refine⟨_,rfl,_,_,rfl,rfl,by show(0:Int)<(p:Int);lia,?_⟩;refine⟨_,rfl,_,rfl,_,rfl,_,_,rfl,rfl,?_⟩;refine⟨l,_,_,j+k,rfl,rfl,hr3,yfu (by rw[ybJ];exact hjk) rfl,?_⟩;refine⟨_,_,s11,s12,rfl,zf7 sx3,by rw[zad nb1];exact hb3,by rw[zad nb2];exact hc3,?_⟩;rw[zaa];congr 2;refine yfV (v:=dg p j x*dg p k y) hjk λi hi=>?_
    by_cases e:i=j+k
    ·subst e;rw[if_pos rfl,if_pos (by lia),if_neg (by lia),Nat.add_zero,show j+k-j=k by lia,Nat.mod_add_mod]
    ·rw[if_neg e];congr 2;by_cases h2:j<=i/\i<j+k
     ·rw[if_pos h2,if_pos (by lia)]
     ·rw[if_neg h2,if_neg (by lia)]
   ·rintro σ H' ⟨s9,s10,s11,s12,rfl,sx,hb,hc,hrow⟩;refine⟨_,_,s9,s10,s11,s12,rfl,sx,hb,?_⟩;rw[hrow,zbr];congr 2;refine ybj λi _=>?_
    rw[sumN];congr 2;unfold shN;by_cases h1:j<=i
    ·rw[if_pos h1];by_cases h2:i<j+m
     ·rw[if_pos ⟨h1,h2⟩]
     ·rw[if_neg (by lia)];show 0=dg p j x*dg p (i-j) y;rw[zal hp hy (by lia),Nat.mul_zero]
    ·rw[if_neg h1,if_neg (by lia),Nat.mul_zero]
  ·rintro σ H' ⟨s7,s8,s9,s10,s11,s12,rfl,sx,hb,hrow⟩;refine hD _ _ ⟨s7,s8,s9,s10,s11,s12,rfl,sx,?_⟩;rw[hrow,zbr];congr 2;exact ybj λi _=>by rw[zd1]
end
end My
end
section
namespace My
open PySem L2 Dg
section
variable {P:Program} {w:World} {mg:Str->Option Value} {base:Heap} {f:Addr} {fd:FuncData}
theorem ziy{b:Bool}(h:¬ (!b)=true):b=true:=by cases b <;> simp_all
inductive zeG (K:PySem.W.Frag) (vs:List V) (H:Hp) (Q:VK) (E:XK):Prop
 |mk (a:Addr) (p m t:Nat) (c1:vs=[.ref a]) (c2:Fld K H a p m t) (c3:2<=p) (c4:1<=m) (c5:p^m<=64) (c6:t<p^m) (c7:∀(b:Bool) H',Same H H'->(b=true->∀x y,0<x->x<p^m->x<p^(m/2+1)->0<y->y<p^m->mul p m t x y≠0)->Q (.bl b) H'):zeG K vs H Q E
theorem yau:yad ["_law_field_here","_law_p","_law_m","_law_top","_law_many","_law_one"] ["_law_field_here"] (zac yaP):=⟨rfl,rfl,rfl,by decide +kernel,rfl,by decide +kernel,by decide +kernel⟩
theorem zhs(B:Bl mg)(h__law_raised:Has P w K mg base 1 "_law_raised" ["_law_one","_law_many"] zah)(h__law_product:Has P w K mg base 2 "_law_product" ["_law_field_here","_law_one","_law_other"] (ybI K))(F:Fun K "_law_is_good" "_law_is_good" yaP f fd):FnOk P w K mg base CX0 3 f fd ["_law_field_here"] (zeG K):=by
 refine F.ok yau (λvs H Q E h=>?_) (λcdv A outer s H vs Q E hr h=>?_)
 ·obtain⟨a,p,m,t,rfl,_⟩:=h;rfl
 obtain⟨a,p,m,t,rfl,hF,hp,hm,hpm,ht,q⟩:=h;have hp2:=p_le hp hm hpm;have hm6:=m_le hp hpm;have hpos:0<p^m:=Nat.pow_pos (by lia);refine⟨_,(((pv 0)≈((1&&&yau.nd)∩((2&&&yau.nd)∩((3&&&yau.nd)∩yav))))<=<(4<|>yau.nd<|>(h__law_raised<$>((pv 1)>=>(pv 2)>=>zab)))<=<((@zcP _ _ _ _ _ _ _ rfl (B "range" (by decide)) (yab>=>((zfz rfl)>>>("min",yel,((pv 4)>=>(h__law_raised<$>((pv 1)>=>(yag|||(zcl|||(pv 2)|||yab)|||yab)>=>zab))>=>zab)))>=>zab) ⋯ ⋯)<&>((5&&&yau.nd),(~~~((@yeO _ _ _ _ (@zda _ _ _ ((ze4 rfl)>>>("all",PyProof.Rows.boot_all,((["_law_other"]⊆(["_law_field_here","_law_one"],[0,5],["_law_field_here","_law_p","_law_m","_law_top","_law_many","_law_one"],yaP,(@zcP _ _ _ _ _ _ _ rfl (B "range" (by decide)) (yab>=>(pv 4)>=>zab) ⋯ ⋯),(0⊇["_law_other","_law_field_here","_law_one"]),zau,(@zcC _ _ _ _ _ _ _ _ yco (h__law_product<$>((pv 1)>=>(pv 2)>=>(pv 0)>=>zab)) yab (ydi _))))>=>zab))) (by intro _;rfl)))*>((~~~(yef⁻¹)),yao)))))<=<(~~~(yef⁻¹))),?_⟩
 try dsimp only[cxOf]
 refine⟨_,rfl,a,_,rfl,hF,rfl,_,_,rfl,_,_,rfl,_,_,rfl,rfl,?_⟩;refine⟨_,rfl,_,rfl,p,m,rfl,hp2,by lia,?_⟩;refine⟨_,rfl,_,rfl,_,rfl,_,_,rfl,rfl,⟨by show(0:Int)<2;decide,by show(2:Int)<2^64;decide⟩,?_⟩;refine⟨_,_,rfl,rfl,?_⟩;refine⟨p,m/2+1,rfl,hp2,by lia,?_⟩;refine⟨_,_,rfl,?_⟩;generalize hj:(if (((p^(m/2+1):Nat):Int)<((p^m:Nat):Int)) then((p^(m/2+1):Nat):Int) else((p^m:Nat):Int))=j;have hj2:0<=j/\j<=((p^m:Nat):Int)/\∀x:Nat,x<p^m->x<p^(m/2+1)->(x:Int)<j:=by
  rw[<-hj];split
  ·exact⟨by lia,by lia,λx h1 h2=>by lia⟩
  ·exact⟨by lia,by lia,λx h1 h2=>by lia⟩
 refine⟨1,j,rfl,⟨by lia,by lia,by lia,by lia⟩,?_⟩
 let I1:Nat->St->Hp->Prop:=λi σ H'=>An3 (Same H H') (∀x y,0<x->x<1+i->0<y->y<p^m->mul p m t x y≠0) (∃s,σ=[some (.ref a),some (Vn p),some (Vn m),some (Vn t),some (Vn (p^m)),s])
 refine zay I1 ⟨Same.refl _,λx y h1 h2=>by lia,none,rfl⟩ ?_ ?_
 ·rintro i σ H' hi ⟨sm,hno,s,rfl⟩;refine⟨_,rfl,1,((p^m:Nat):Int),rfl,⟨by lia,by lia,by lia,by lia⟩,?_⟩;refine zan za0 (λk acc H1=>Same H H1/\acc=((List.range k).map λj=>decide (0<mul p m t (1+i) (1+j))).map V.bl) ⟨sm,rfl⟩ (λ_ _ _ _ _=>trivial) ?_ ?_ ?_
  ·rintro k acc H1 hk ⟨_,rfl⟩;rw[List.length_map,List.length_map,List.length_range];exact Nat.lt_of_le_of_lt (show k<=1000 by lia) (zai (Nat.le_refl _))
  ·rintro k acc x H1 H2 hk ⟨sm1,rfl⟩ ⟨rfl,rfl⟩;refine⟨_,rfl,_,rfl,_,rfl,a,p,m,t,1+i,1+k,rfl,Same.tup sm1 hF,hp,hm,hpm,ht,by lia,by lia,λr H3 s3 br hr=>?_⟩;have e:=zb1 hp hm br hr;subst e;refine⟨_,_,rfl,rfl,sm1.trans s3,?_⟩;rw[List.range_succ,List.map_append,List.map_append];refine congrArg (_++[V.bl ·]) ?_;show decide ((0:Int)<((mul p m t (1+i) (1+k):Nat):Int))=decide (0<mul p m t (1+i) (1+k));exact decide_eq_decide.mpr (by lia)
  ·rintro acc H1 ⟨sm1,rfl⟩ D hD;refine⟨D,_,rfl,SqL.of zaa,_,rfl,?_⟩;refine ite2 (λc=>?_) (λc=>?_)
   ·exact q _ _ (sm1.trans (yaa hD _)) (λh=>by cases h)
   ·refine⟨sm1.trans (yaa hD _),λx y h1 h2 h3 h4=>?_,_,rfl⟩;by_cases hx:x<1+i
    ·exact hno x y h1 hx h3 h4
    ·have c2:((List.range (((p^m:Nat):Int)-1).toNat).map λj=>decide (0<mul p m t (1+i) (1+j))).all id=true:=ziy c;rw[List.all_eq_true]at c2;have c3:=c2 (decide (0<mul p m t (1+i) (1+(y-1)))) (List.mem_map.mpr ⟨y-1,List.mem_range.mpr (by lia),rfl⟩);have c4:0<mul p m t (1+i) (1+(y-1)):=of_decide_eq_true c3;rw[show 1+i=x by lia,show 1+(y-1)=y by lia]at c4
     lia
 ·rintro σ H' ⟨sm,hno,s,rfl⟩;refine q _ _ sm λ_ x y h1 h2 h3 h4 h5=>hno x y h1 ?_ h4 h5
  have:=hj2.2.2 x h2 h3
  lia
end
end My
end
section
namespace My
open PySem L2 Dg
theorem zgT{p m:Nat}(h:(p,m)∈Dg.menu):(p,1)∈Dg.menu:=(by decide +kernel:∀c∈Dg.menu,(c.1,1)∈Dg.menu) (p,m) h
def zfA:List (Int×Int)->TA
 | []=>tNil
 |(p,m)::r=>zej (tTup (zej (tC (.int p)) (zej (tC (.int m)) tNil))) (zfA r)
@[irreducible] noncomputable def ydn (ps:List (Int×Int)):TA:=zfA ps
theorem zdG(ps:List (Int×Int)):ydn ps=zfA ps:=by unfold ydn;rfl
theorem zdO:ydn []=tNil:=by rw[zdG];rfl
theorem zdh{p m:Int}{r:List (Int×Int)}:ydn ((p,m)::r)=zej (tTup (zej (tC (.int p)) (zej (tC (.int m)) tNil))) (ydn r):=by rw[zdG,zdG];rfl
section
variable {X:Cx}
theorem zcW:PA X [] (ydn []):=by rw[zdO];exact zab
theorem zag{p m:Int}{k1 k2 c:Nat}{p1 p2 p3:Pos}{es:List Expr}{r:List (Int×Int)}(h:PA X es (ydn r)):PA X (.Tuple [.Constant (.int p) k1 p1,.Constant (.int m) k2 p2] c p3::es) (ydn ((p,m)::r)):=by
 rw[zdh];exact ybm (yaM (ybm yab (ybm yab zab))) h
end
def ydb(H:Hp)(t:Addr):Prop:=Ex2 λ(p m:Nat)=>H t=some (.tup [Vn p,Vn m])/\(p,m)∈Dg.menu
theorem ydb.same(h:ydb H t)(s:∀o,H t=some o->H' t=some o):ydb H' t:=by
 obtain⟨p,m,e,q⟩:=h;exact⟨p,m,s _ e,q⟩
theorem ycJ:∀(ps:List (Int×Int)) (σ:St) (H:Hp) (Q:List V->Hp->Prop),(∀x∈ps,Ex2 λ(p m:Nat)=>x=((p:Int),(m:Int))/\(p,m)∈Dg.menu)->
  (∀(ts:List Addr) H',Same H H'->ts.length=ps.length->(∀t∈ts,H t=none/\ydb H' t)->Q (ts.map V.ref) H')->ydn ps σ H Q
 | [],σ,H,Q,_,q=>by rw[zdO];exact q [] H (Same.refl _) rfl (λt ht=>nomatch ht)
 |(p,m)::r,σ,H,Q,hp,q=>by
  rw[zdh];refine⟨szl 2,λt ht=>?_⟩;obtain⟨p',m',e,b⟩:=hp (p,m) List.mem_cons_self;cases e;refine ycJ r σ _ _ (λx hx=>hp x (List.mem_cons_of_mem _ hx)) λts H' s hl hts=>?_
  refine q (t::ts) H' ((yaa ht _).trans s) (by simp[hl]) λt' ht'=>?_
  rcases List.mem_cons.mp ht' with e|e
  ·subst e;exact⟨ht,p',m',s _ _ zaa,b⟩
  ·exact⟨(yaa ht _).free (hts t' e).1,(hts t' e).2⟩
structure Menu(a g:Addr)(H:Hp)(l:Addr)(n:Nat):Prop where
 ex:∃ts:List Addr,H l=some (.lst (ts.map V.ref))/\ts.length=n/\∀t∈ts,t≠a/\t≠g/\ydb H t
 na:l≠a
 ng:l≠g
theorem Menu.x{n:Nat}(h:Menu a g H l n)(s:yar a g H H'):Menu a g H' l n:=by
 obtain⟨⟨ts,h1,h2,h3⟩,na,ng⟩:=h;exact⟨⟨ts,s _ _ na ng h1,h2,λt ht=>⟨(h3 t ht).1,(h3 t ht).2.1,(h3 t ht).2.2.same λo e=>s _ _ (h3 t ht).1 (h3 t ht).2.1 e⟩⟩,na,ng⟩
section
variable {P:Program} {w:World} {mg:Str->Option Value} {base:Heap} {f:Addr} {fd:FuncData}
def zb5:List Nat:=[17,19,23,29,31,37,41,43,47,53,59]
inductive zdK (vs:List V) (H:Hp) (Q:VK) (E:XK):Prop
 |mk (a g:Addr) (c1:vs=[.ref a]) (c2:Pu H a g) (c3:∀(r:Addr) (p m t:Nat) H',r≠a->r≠g->H r=none->H' r=some (.tup [Vn p,Vn m,Vn t])->Good p m t->Pu H' a g->yar a g H H'->Q (.ref r) H'):zdK vs H Q E
theorem zak:yad ["_law_purse_here","_law_some","_law_size","_law_p","_law_m","_law_many","_law_start","_law_turn","_law_field_here"] ["_law_purse_here"] (zac za8):=⟨rfl,rfl,rfl,by decide +kernel,rfl,by decide +kernel,by decide +kernel⟩
theorem Pu.lt(h:Pu H a g)(hl:H l=none):l≠a/\l≠g:=by
 obtain⟨ns,s,t,h1,h2⟩:=h;exact⟨Ne.symm (yac h1 hl),Ne.symm (yac h2 hl)⟩
theorem zgS(B:Bl mg)(h__law_pick:Has P w K mg base 1 "_law_pick" ["_law_purse_here","_law_many"] zcN)(h__law_raised:Has P w K mg base 1 "_law_raised" ["_law_one","_law_many"] zah)(h__law_is_good:Has P w K mg base 3 "_law_is_good" ["_law_field_here"] (zeG K))(F:Fun K "_law_field" "_law_field" za8 f fd):FnOk P w K mg base CX0 4 f fd ["_law_purse_here"] zdK:=by
 refine F.ok zak (λvs H Q E h=>?_) (λcdv A outer s H vs Q E hr h=>?_)
 ·obtain⟨a,g,rfl,_⟩:=h;rfl
 obtain⟨a,g,rfl,hP,q⟩:=h;refine⟨_,((1<|>zak.nd<|>(@zaq _ _ _ _ (@zag _ _ _ _ _ _ _ _ _ _ _ (@zag _ _ _ _ _ _ _ _ _ _ _ (@zag _ _ _ _ _ _ _ _ _ _ _ (@zag _ _ _ _ _ _ _ _ _ _ _ (@zag _ _ _ _ _ _ _ _ _ _ _ (@zag _ _ _ _ _ _ _ _ _ _ _ (@zag _ _ _ _ _ _ _ _ _ _ _ (@zag _ _ _ _ _ _ _ _ _ _ _ (@zag _ _ _ _ _ _ _ _ _ _ _ (@zag _ _ _ _ _ _ _ _ _ _ _ (@zag _ _ _ _ _ _ _ _ _ _ _ (@zag _ _ _ _ _ _ _ _ _ _ _ zcW))))))))))))))<=<(2<|>zak.nd<|>(h__law_pick<$>((pv 0)>=>yab>=>zab)))<=<((zbN∪(pv 2)∪yab)*>((~~~(1<|>zak.nd<|>(@zaq _ _ _ _ (@zag _ _ _ _ _ _ _ _ _ _ _ (@zag _ _ _ _ _ _ _ _ _ _ _ (@zag _ _ _ _ _ _ _ _ _ _ _ (@zag _ _ _ _ _ _ _ _ _ _ _ zcW))))))),yao))<=<((zbN∪(pv 2)∪yab)*>((~~~(@zhy _ 1 _ _ _ _ _ _ _ _ _ ["_law_p"] [] [] _ _ _ _ zak.nd rfl (Or.inl rfl) (id (α:=CSc ["_law_purse_here","_law_some","_law_size","_law_p","_law_m","_law_many","_law_start","_law_turn","_law_field_here"] (zac za8) ["_law_p"] [] [] _) ⟨by rfl,by decide +kernel,by decide +kernel,by decide +kernel,by decide +kernel,by rfl,by decide +kernel⟩) rfl (@zaO _ _ _ _ (@zaq _ _ _ _ (yab>=>yab>=>yab>=>yab>=>yab>=>yab>=>yab>=>yab>=>yab>=>yab>=>yab>=>zab))) (λcl C fp s H=>(0⊇["_law_p"])) (λ_ _ _ _ _=>zau) (λ_ _ _ _ _=>(@yaM _ _ _ _ _ ((pv 0)>=>yab>=>zab))) ⋯ (by intro _;rfl) (by trivial))),yao))<=<((yah<<<(pv 1)<<<(h__law_pick<$>((pv 0)>=>(yae>>>("len",PySem.boot_len,((pv 1)>=>zab)))>=>zab)))≈((3&&&zak.nd)∩((4&&&zak.nd)∩yav)))<=<(5<|>zak.nd<|>(h__law_raised<$>((pv 3)>=>(pv 4)>=>zab)))<=<(6<|>zak.nd<|>(h__law_pick<$>((pv 0)>=>(pv 5)>=>zab)))<=<((↑((pv 5)>=>zab))<&>((7&&&zak.nd),((8<|>zak.nd<|>(@yaM _ _ _ _ _ ((pv 3)>=>(pv 4)>=>(zax|||(yag|||(pv 6)|||(pv 7))|||(pv 5))>=>zab)))<=<(~~~((@PW.pt _ _ _ (@zft _ _ _ _ _ _ _ (zbN∪(pv 4)∪yab) (@yd1 _ _ _ _ (@zda _ _ _ (h__law_is_good<$>((pv 8)>=>zab)) (by intro _;rfl)))))*>((~~~((pv 8)⁻¹)),yao))))))<=<(~~~((@yaM _ _ _ _ _ ((pv 3)>=>yab>=>yab>=>zab))⁻¹))),?_⟩
 try dsimp only[cxOf]
 refine ycJ [(2,1),(2,2),(2,3),(2,4),(3,1),(3,2),(3,3),(5,1),(5,2),(7,1),(11,1),(13,1)] _ H _ ?_ λts H0 s0 hts hpair=>?_
 ·intro x hx;simp only[List.mem_cons,List.not_mem_nil,or_false]at hx;rcases hx with rfl|rfl|rfl|rfl|rfl|rfl|rfl|rfl|rfl|rfl|rfl|rfl
  ·exact⟨2,1,rfl,by decide +kernel⟩
  ·exact⟨2,2,rfl,by decide +kernel⟩
  ·exact⟨2,3,rfl,by decide +kernel⟩
  ·exact⟨2,4,rfl,by decide +kernel⟩
  ·exact⟨3,1,rfl,by decide +kernel⟩
  ·exact⟨3,2,rfl,by decide +kernel⟩
  ·exact⟨3,3,rfl,by decide +kernel⟩
  ·exact⟨5,1,rfl,by decide +kernel⟩
  ·exact⟨5,2,rfl,by decide +kernel⟩
  ·exact⟨7,1,rfl,by decide +kernel⟩
  ·exact⟨11,1,rfl,by decide +kernel⟩
  ·exact⟨13,1,rfl,by decide +kernel⟩
 refine⟨by rw[List.length_map,hts];exact szl 12,λl hl=>?_⟩;have hP0:Pu (upd H0 l (.lst (ts.map V.ref))) a g:=hP.same (s0.trans (yaa hl _));have sx0:yar a g H (upd H0 l (.lst (ts.map V.ref))):=Same.x (s0.trans (yaa hl _));have M0:Menu a g (upd H0 l (.lst (ts.map V.ref))) l 12:=by
  have n1:=(hP.same s0).lt hl;refine⟨⟨ts,zaa,hts,λt ht=>?_⟩,n1.1,n1.2⟩;have n2:=hP.lt (hpair t ht).1;exact⟨n2.1,n2.2,(hpair t ht).2.same λo e=>(yaa hl _) _ _ e⟩
 generalize upd H0 l (.lst (ts.map V.ref))=G at hP0 sx0 M0 ⊢;refine⟨_,rfl,a,g,8,rfl,hP0,by lia,by lia,λsz H1 hsz hP1 sx1=>?_⟩;have sxA:=sx0.trans sx1;have M1:=M0.x sx1;dsimp only[zaj]
 let I1:St->Hp->Prop:=λσ H'=>Ex2 λl n=>An6 (0<n) (n<=12) (Menu a g H' l n) (Pu H' a g) (yar a g H H') (σ=[some (.ref a),some (.ref l),some (Vn sz),none,none,none,none,none,none])
 refine ybt I1 ?_ ?_
 ·rintro σ H2 ⟨l,n,hn,hn2,M2,hP2,sx2,rfl⟩
  let I2:St->Hp->Prop:=λσ H'=>Ex2 λl n=>An6 (0<n) (n<=12) (Menu a g H' l n) (Pu H' a g) (yar a g H H') (σ=[some (.ref a),some (.ref l),some (Vn sz),none,none,none,none,none,none])
  refine ybt I2 ?_ ?_
  ·rintro σ H3 ⟨l,n,hn,hn2,M3,hP3,sx3,rfl⟩;obtain⟨ts3,e3,l3,p3⟩:=M3.ex;refine⟨_,rfl,_,rfl,_,rfl,l,_,rfl,.inl (SqL.of e3),?_⟩;refine⟨a,g,n,by rw[List.length_map,l3];rfl,hP3,hn,by lia,λi H4 hi hP4 sx4=>?_⟩;obtain⟨ts4,e4,l4,p4⟩:=(M3.x sx4).ex;have hi4:i<ts4.length:=by lia
   refine⟨l,_,_,.ref (ts4[i]),rfl,rfl,SqL.of e4,zaz (by rw[List.getElem?_map,List.getElem?_eq_getElem hi4];rfl),?_⟩;obtain⟨_,_,p,m,ep,hmem⟩:=p4 ts4[i] (List.getElem_mem hi4);obtain⟨hp,hm,hpm⟩:=ybi hmem;have hp2:=p_le hp hm hpm;have hm6:=m_le hp hpm;have hpos:0<p^m:=Nat.pow_pos (by lia);refine⟨ts4[i],_,rfl,SqT.of ep,rfl,_,_,rfl,_,_,rfl,rfl,?_⟩;refine⟨_,rfl,_,rfl,p,m,rfl,hp2,by lia,?_⟩;refine⟨_,rfl,_,rfl,a,g,p^m,rfl,hP4,hpos,by lia,λst H5 hst hP5 sx5=>?_⟩;have sxE:=sx3.trans (sx4.trans sx5);refine⟨_,rfl,((p^m:Nat):Int),rfl,by lia,by lia,?_⟩
   let I3:Nat->St->Hp->Prop:=λi σ H'=>An3 (Pu H' a g) (yar a g H H') (Ex2 λs7 s8=>σ=[some (.ref a),some (.ref l),some (Vn sz),some (Vn p),some (Vn m),some (Vn (p^m)),some (Vn st),s7,s8])
   refine zay (n:=p^m) I3 ⟨hP5,sxE,none,none,rfl⟩ ?_ ?_
   ·rintro j σ H6 hj ⟨hP6,sx6,s7,s8,rfl⟩;refine⟨_,rfl,_,rfl,_,rfl,_,rfl,_,_,rfl,rfl,?_⟩;refine⟨_,rfl,_,_,rfl,rfl,by show(0:Int)<((p^m:Nat):Int);lia,?_⟩;refine⟨szl 3,λr hr=>?_⟩;have nr:=hP6.lt hr;have hr0:H r=none:=by
     cases e:H r with
     |none=>rfl
     |some o=>rw[sx6 r o nr.1 nr.2 e]at hr;cases hr
    have et:V.int ((((st:Nat):Int)+(0+(j:Int)))%((p^m:Nat):Int))=Vn ((st+j)%p^m):=by show V.int _=V.int _;congr 1;rw[Int.zero_add];rfl
    have hlt:(st+j)%p^m<p^m:=Nat.mod_lt _ hpos;have hP7:Pu (upd H6 r (.tup [Vn p,Vn m,Vn ((st+j)%p^m)])) a g:=hP6.same (yaa hr _);have sx7:yar a g H (upd H6 r (.tup [Vn p,Vn m,Vn ((st+j)%p^m)])):=sx6.trans (Same.x (yaa hr _));dsimp only[zaj];rw[et];refine⟨_,rfl,rfl,_,rfl,?_⟩;refine ite2 (λc=>?_) (λc=>?_)
    ·refine ite2 (λ_=>?_) (λc=>absurd rfl c);have hm1:m=1:=by
      have:=of_decide_eq_true c;injection this with this
      lia
     exact⟨_,rfl,q r p m _ _ nr.1 nr.2 hr0 zaa ⟨hmem,hlt,.inl hm1⟩ hP7 sx7⟩
    ·refine⟨_,rfl,r,p,m,(st+j)%p^m,rfl,SqT.of zaa,hp,hm,hpm,hlt,λb H8 s8' hb=>?_⟩;refine⟨_,rfl,?_⟩;refine ite2 (λc2=>?_) (λ_=>?_)
     ·exact⟨_,rfl,q r p m _ _ nr.1 nr.2 hr0 (s8' _ _ zaa) ⟨hmem,hlt,.inr (hb c2)⟩ (hP7.same s8') (sx7.trans (Same.x s8'))⟩
     ·exact⟨hP7.same s8',sx7.trans (Same.x s8'),_,_,rfl⟩
   ·rintro σ H6 ⟨hP6,sx6,s7,s8,rfl⟩;refine⟨_,rfl,szl 3,λr hr=>?_⟩;have nr:=hP6.lt hr;have hr0:H r=none:=by
     cases e:H r with
     |none=>rfl
     |some o=>rw[sx6 r o nr.1 nr.2 e]at hr;cases hr
    exact q r p 1 0 _ nr.1 nr.2 hr0 zaa ⟨zgT hmem,by simp;lia,.inl rfl⟩ (hP6.same (yaa hr _)) (sx6.trans (Same.x (yaa hr _)))
  ·intro D' _ _ _ hD;refine⟨_,rfl,rfl,_,rfl,?_⟩;refine ite2 (λc=>?_) (λc=>hD _ _ ⟨l,n,hn,hn2,M2,hP2,sx2,rfl⟩);refine⟨szl 11,λl2 hl2=>?_⟩;refine⟨l2,rfl,⟨_,SqL.of zaa⟩,?_⟩;refine zan (yaH (xs:=zb5.map Vn)) (λk acc H'=>Same (upd H2 l2 (.lst (zb5.map Vn))) H'/\∃ts:List Addr,ts.length=k/\acc=ts.map V.ref/\∀t∈ts,t≠a/\t≠g/\ydb H' t)
    ⟨Same.refl _,[],rfl,rfl,λt ht=>nomatch ht⟩ (λi acc H' _ h=>SqL.of (h.1 _ _ zaa)) ?_ ?_ ?_
   ·rintro k acc H' hk ⟨_,ts,e,rfl,_⟩;have hk':k<11:=hk;rw[List.length_map,e];exact zai (by lia)
   ·rintro k acc x H3 H4 hk ⟨s3,ts,e,rfl,hts⟩ ⟨rfl,hx⟩;obtain⟨pr,hpr,rfl⟩:∃pr,pr∈zb5/\x=Vn pr:=by
     rw[List.getElem?_map]at hx;cases e:zb5[k]? with
     |none=>rw[e]at hx;cases hx
     |some pr=>rw[e]at hx;cases hx;exact⟨pr,List.mem_of_getElem? e,rfl⟩
    have hb:(pr,1)∈Dg.menu:=(by decide +kernel:∀x∈zb5,(x,1)∈Dg.menu) pr hpr;refine⟨_,rfl,szl 2,λt ht=>?_⟩;have hP3:Pu H4 a g:=hP2.same ((yaa hl2 _).trans s3);have nt:=hP3.lt ht;refine⟨s3.trans (yaa ht _),ts++[t],by simp[e],by simp,λt' ht'=>?_⟩;rcases List.mem_append.mp ht' with h|h
    ·exact⟨(hts t' h).1,(hts t' h).2.1,(hts t' h).2.2.same λo e=>(yaa ht _) _ _ e⟩
    ·cases List.mem_singleton.mp h;exact⟨nt.1,nt.2,pr,1,zaa,hb⟩
   ·rintro acc H3 ⟨s3,ts,e,rfl,hts⟩ D hD3;have sA:Same H2 H3:=(yaa hl2 _).trans s3;have hP3:Pu H3 a g:=hP2.same sA;have nD:=hP3.lt hD3;refine hD _ _ ⟨D,11,by lia,by lia,⟨⟨ts,zaa,e,λt ht=>?_⟩,nD.1,nD.2⟩,hP3.same (yaa hD3 _),sx2.trans (Same.x (sA.trans (yaa hD3 _))),rfl⟩;exact⟨(hts t ht).1,(hts t ht).2.1,(hts t ht).2.2.same λo e=>(yaa hD3 _) _ _ e⟩
 ·intro D' _ _ _ hD;refine⟨_,rfl,rfl,_,rfl,?_⟩;refine ite2 (λc=>?_) (λc=>hD _ _ ⟨l,12,by lia,by lia,M1,hP1,sxA,rfl⟩);refine ycJ [(2,5),(2,6),(7,2),(61,1)] _ H1 _ ?_ λts2 H2 s2 hts2 hpair2=>?_
  ·intro x hx;simp only[List.mem_cons,List.not_mem_nil,or_false]at hx;rcases hx with rfl|rfl|rfl|rfl
   ·exact⟨2,5,rfl,by decide +kernel⟩
   ·exact⟨2,6,rfl,by decide +kernel⟩
   ·exact⟨7,2,rfl,by decide +kernel⟩
   ·exact⟨61,1,rfl,by decide +kernel⟩
  refine⟨by rw[List.length_map,hts2];exact szl 4,λl2 hl2=>?_⟩;refine hD _ _ ⟨l2,4,by lia,by lia,?_,hP1.same (s2.trans (yaa hl2 _)),sxA.trans (Same.x (s2.trans (yaa hl2 _))),rfl⟩;have n1:=(hP1.same s2).lt hl2;refine⟨⟨ts2,zaa,hts2,λt ht=>?_⟩,n1.1,n1.2⟩;have n2:=hP1.lt (hpair2 t ht).1;exact⟨n2.1,n2.2,(hpair2 t ht).2.same λo e=>(yaa hl2 _) _ _ e⟩
end
end My
end
section
namespace My
open PySem L2 Dg
theorem yd6:bootBuiltins "dict"=some (.type "dict"):=by decide +kernel
def Pws(p m t b:Nat):List Nat:=(List.range (p^m-1)).map (pw p m t b)
def Logs(p m t b:Nat):List (Key×V):=(List.range (p^m-1)).map λi=>(Sum.inl ((pw p m t b i:Nat):Int),Vn i)
noncomputable def tabD(fa pa la:Addr)(p m:Nat):List (Key×V):=[(.inr "field",.ref fa),(.inr "p",Vn p),(.inr "m",Vn m),(.inr "many",Vn (p^m)),(.inr "powers",.ref pa),(.inr "logs",.ref la)]
structure Tab(H:Hp)(tb fa pa la:Addr)(p m t b:Nat):Prop where
 d:H tb=some (.dK (tabD fa pa la p m))
 f:H fa=some (.tup [Vn p,Vn m,Vn t])
 w:H pa=some (.lst ((Pws p m t b).map Vn))
 l:H la=some (.dK (Logs p m t b))
 good:Good p m t
 prim:Prim p m t b
theorem Tab.same{p m t b:Nat}(T:Tab H tb fa pa la p m t b)(s:Same H H'):Tab H' tb fa pa la p m t b :=
 ⟨s _ _ T.d,s _ _ T.f,s _ _ T.w,s _ _ T.l,T.good,T.prim⟩
theorem ya0{α:Type}{f:Nat->α}(n:Nat)(h:∀i j,i<n->j<n->f i=f j->i=j):((List.range n).map f).Nodup:=by
 rw[List.Nodup,List.pairwise_iff_getElem];intro i j hi hj hij;simp only[List.length_map,List.length_range]at hi hj;simp only[List.getElem_map,List.getElem_range];intro e;have:=h i j hi hj e
 lia
theorem zfb{f:Nat->Key}{g:Nat->V}:∀(l:List Nat) (n:Nat),l=List.range n->(∀i j,i<n->j<n->f i=f j->i=j)->∀i,i<n->valV (l.map λi=>(f i,g i)) (f i)=some (g i):=by
 intro l n hl h i hi;subst hl;unfold valV;rw[List.find?_map];have e:(List.range n).find? ((λkv:Key×V=>decide (kv.1=f i)) ∘ λi=>(f i,g i))=some i:=by
  rw[List.find?_range_eq_some];refine⟨by simp,by simpa using hi,λj hj=>?_⟩;simp only[Function.comp,Bool.not_eq_true',decide_eq_false_iff_not];intro e;have:=h j i (by lia) hi e
  lia
 rw[e];rfl
theorem zfq(fa pa la:Addr)(p m:Nat):ydd [] (tabD fa pa la p m)=tabD fa pa la p m:=rfl
theorem zdJ(p m t b:Nat):(Pws p m t b).length=p^m-1:=by simp[Pws]
section
variable {P:Program} {w:World} {mg:Str->Option Value} {base:Heap} {f:Addr} {fd:FuncData}
inductive zdz (vs:List V) (H:Hp) (Q:VK) (E:XK):Prop
 |mk (fa:Addr) (p m t:Nat) (c1:vs=[.ref fa]) (c2:H fa=some (.tup [Vn p,Vn m,Vn t])) (c3:Good p m t) (c4:∀tb pa la b H',H tb=none->H pa=none->H la=none->Tab H' tb fa pa la p m t b->Same H H'->Q (.ref tb) H'):zdz vs H Q E
theorem zaE:yad ["_law_field_here","_law_many","_law_powers","_law_base","_law_thing","_law_logs"] ["_law_field_here"] (zac ya7):=⟨rfl,rfl,rfl,by decide +kernel,rfl,by decide +kernel,by decide +kernel⟩
theorem zgR(B:Bl mg)(h__law_raised:Has P w K mg base 1 "_law_raised" ["_law_one","_law_many"] zah)(h__law_product:Has P w K mg base 2 "_law_product" ["_law_field_here","_law_one","_law_other"] (ybI K))(F:Fun K "_law_table" "_law_table" ya7 f fd):FnOk P w K mg base CX0 3 f fd ["_law_field_here"] zdz:=by
 refine F.ok zaE (λvs H Q E h=>?_) (λcdv A outer s H vs Q E hr h=>?_)
 ·obtain⟨fa,p,m,t,rfl,_⟩:=h;rfl
 obtain⟨fa,p,m,t,rfl,hf,G,q⟩:=h;obtain⟨b,Pb⟩:=G.prim;have hp:=G.hp;have hm:=G.hm;have hpm:=G.hq;have ht:=G.top;have hp2:=p_le hp hm hpm;have hm6:=m_le hp hpm;have hQ2:=zap hp hm;have hbp:=Pb.pos;have hbl:=Pb.lt;refine⟨_,((1<|>zaE.nd<|>(h__law_raised<$>((zam<<<(pv 0)<<<yab)>=>(zam<<<(pv 0)<<<yab)>=>zab)))<=<(@ycy _ _ 2 3 _ _ _ _ _ _ _ _ _ _ _ rfl zaE.nd rfl rfl (by decide) rfl rfl ((@zaq _ _ _ _ zab)>=>yab>=>zab) rfl ⋯)<=<(@yaC _ _ _ _ _ _ PassesOwn.never (zhP∪(yae>>>("len",PySem.boot_len,((pv 2)>=>zab)))∪(yan|||(pv 1)|||yab)) ((@yen _ _ 3 2 4 _ _ _ _ _ _ _ _ _ _ _ _ _ _ rfl zaE.nd rfl rfl rfl (by decide) rfl rfl rfl ((yag|||(pv 3)|||yab)>=>(@zaq _ _ _ _ (yab>=>zab))>=>(yag|||(pv 3)|||yab)>=>zab) rfl ⋯)<=<(~~~(@yaC _ _ _ _ _ _ PassesOwn.never (zd2∪(pv 4)∪yab) ((@zcj _ _ _ _ (@yfp _ _ _ _ _ _ _ _ _ _ _ _ PySem.F.plainAttrs_list PySem.F.slot_list_append PySem.F.type_list_append zcd (pv 2) ((pv 4)>=>zab) ⋯ ⋯ ⋯ ⋯ ⋯) ⋯)<=<(~~~(4<|>zaE.nd<|>(h__law_product<$>((pv 0)>=>(pv 4)>=>(pv 3)>=>zab)))))))))<=<(5<|>zaE.nd<|>((zc6 rfl)<*("dict",yd6,((["_law_at","_law_thing"]⊆([],[],["_law_field_here","_law_many","_law_powers","_law_base","_law_thing","_law_logs"],ya7,(@ybw _ _ _ _ _ _ _ _ rfl (B "enumerate" (by decide)) ((pv 2)>=>zab) ⋯),(@ydk _ _ _ _ 2 _ K rfl rfl ((0⊇["_law_at","_law_thing"])∩((1⊇["_law_at","_law_thing"])∩yav)) ⋯ ⋯),zau,(@yaM _ _ _ _ _ ((pv 1)>=>(pv 0)>=>zab))))>=>zab))))<=<(~~~((@zhN _ _ _ _ _ (@zbG _ _ _ _ _ _ _ _ _ zaF (pv 0) (@zbG _ _ _ _ _ _ _ _ _ zaF (zam<<<(pv 0)<<<yab) (@zbG _ _ _ _ _ _ _ _ _ zaF (zam<<<(pv 0)<<<yab) (@zbG _ _ _ _ _ _ _ _ _ zaF (pv 1) (@zbG _ _ _ _ _ _ _ _ _ zaF (pv 2) (@zbG _ _ _ _ _ _ _ _ _ zaF (pv 5) zhk)))))) rfl rfl (λh=>nomatch h) (by decide))⁻¹))),?_⟩
 try dsimp only[cxOf]
 refine⟨_,rfl,fa,_,_,_,rfl,rfl,SqT.of hf,rfl,?_⟩;refine⟨_,rfl,fa,_,_,_,rfl,rfl,SqT.of hf,rfl,?_⟩;refine⟨p,m,rfl,hp2,by lia,?_⟩;refine⟨szl 0,λl0 hl0=>⟨_,_,rfl,?_⟩⟩;dsimp only[]
 let I1:St->Hp->Prop:=λσ H'=>Same H H'/\Ex2 λpa s4=>An3 (H pa=none) (H' pa=some (.lst ((Pws p m t b).map Vn))) (σ=[some (.ref fa),some (Vn (p^m)),some (.ref pa),some (Vn b),s4,none])
 refine ybt I1 ?_ ?_
 ·rintro σ H1 ⟨s1,pa,s4,npa,epa,rfl⟩;refine⟨_,rfl,false,pa,rfl,⟨_,SqL.of epa⟩,?_⟩;refine zan (zaV (b:=false) (xs:=(Pws p m t b).map Vn)) (λk acc H'=>Same H1 H'/\∃ts:List Addr,ts.length=k/\acc=ts.map V.ref/\∀j a,ts[j]?=some a->H' a=some (.tup [Vn (pw p m t b j),Vn j])) ⟨Same.refl _,[],rfl,rfl,λj a e=>by simp at e⟩ (λi acc H' _ h=>SqL.of (h.1 _ _ epa)) ?_ ?_ ?_
  ·rintro k acc H' hk ⟨_,ts,e,rfl,_⟩;rw[List.length_map,zdJ]at hk;rw[List.length_map,e];exact zai (by lia)
  ·rintro k acc x H2 H3 hk ⟨s2,ts,e,rfl,hts⟩ ⟨T,u,rfl,eu,hT,rfl⟩;rw[List.length_map,zdJ]at hk;have eu2:u=Vn (pw p m t b k):=by
    unfold Pws at eu;rw[List.getElem?_map,List.getElem?_map,List.getElem?_range hk]at eu;exact(Option.some.inj eu).symm
   subst eu2;refine⟨T,_,rfl,SqT.of zaa,rfl,_,_,rfl,_,_,rfl,rfl,?_⟩;refine⟨_,rfl,_,rfl,szl 2,λa ha=>?_⟩;have sA:=(yaa hT (.tup [.int (k:Int),Vn (pw p m t b k)])).trans (yaa ha (.tup [Vn (pw p m t b k),Vn k]));refine⟨s2.trans sA,ts++[a],by simp[e],by simp,λj a' ej=>?_⟩;rw[List.getElem?_append]at ej;split at ej
   ·exact sA _ _ (hts j a' ej)
   ·rename_i h;have hj:j=k:=by
     have:=(List.getElem?_eq_some_iff.mp ej).1;simp at this;lia
    subst hj;simp[e]at ej;subst ej;exact zaa
  ·rintro acc H2 ⟨s2,ts,e,rfl,hts⟩ D hD;rw[List.length_map,zdJ]at e;have sB:=yaa hD (.lst (ts.map V.ref));refine⟨D,ts,Logs p m t b,rfl,zaa,by rw[e];simp[Logs],by simp only[Logs,List.length_map,List.length_range];exact szl _ (by lia),λj a kv ej ek=>?_,?_,λla hla=>?_⟩
   ·have hj:j<p^m-1:=by have:=(List.getElem?_eq_some_iff.mp ej).1;lia
    unfold Logs at ek;rw[List.getElem?_map,List.getElem?_range hj]at ek;cases ek;exact sB _ _ (hts j a ej)
   ·unfold Logs;rw[List.map_map];refine ya0 _ λi j hi hj e=>G.inj Pb i j hi hj ?_
    have e:Sum.inl ((pw p m t b i:Nat):Int)=(Sum.inl ((pw p m t b j:Nat):Int):Key):=e;injection e with e
    lia
   ·intro tb htb;have s3:Same H1 (upd (upd H2 D (.lst (ts.map V.ref))) la (.dK (Logs p m t b))):=(s2.trans sB).trans (yaa hla _);have s4:=s3.trans (yaa htb (.dK []));have s5:=s1.trans s4;refine⟨_,rfl,_,rfl,fa,_,_,_,rfl,rfl,SqT.of (s5 _ _ hf),rfl,?_⟩;refine⟨_,rfl,fa,_,_,_,rfl,rfl,SqT.of (s5 _ _ hf),rfl,?_⟩;refine⟨_,rfl,_,rfl,_,rfl,zaa,tabD fa pa la p m,rfl,by show 6<=15;decide,?_⟩;rw[yf8,zfq];have s6:=s3.trans (yaa htb (.dK (tabD fa pa la p m)));have s7:=s1.trans s6;have old:∀a,H1 a=none->H a=none:=λa ha=>by
     cases e:H a with
     |none=>rfl
     |some o=>rw[s1 _ _ e]at ha;cases ha
    have old2:∀a,upd H2 D (.lst (ts.map V.ref)) a=none->H a=none:=λa ha=>by
     cases e:H a with
     |none=>rfl
     |some o=>rw[(s2.trans sB) _ _ (s1 _ _ e)]at ha;cases ha
    refine q tb pa la b _ ?_ npa (old2 la hla) ⟨zaa,s7 _ _ hf,s6 _ _ epa,(yaa htb _) _ _ zaa,G,Pb⟩ s7;cases e:H tb with
    |none=>rfl
    |some o=>rw[s3 _ _ (s1 _ _ e)]at htb;cases htb
 ·intro D' _ _ _ hD
  let I2:St->Hp->Prop:=λσ H'=>Same H H'/\Ex3 λbase pa s4=>An3 (H pa=none) (σ=[some (.ref fa),some (Vn (p^m)),some (.ref pa),some (Vn base),s4,none]) (∃L:List Nat,H' pa=some (.lst (L.map Vn))/\((base=b/\L=Pws p m t b)\/(base<b/\L.length<p^m-1)))
  refine yaD I2
   (λσ _=>b-mI σ 3) ⟨yaa hl0 _,0,l0,none,hl0,rfl,[],zaa,.inr ⟨hbp,by show 0<p^m-1;lia⟩⟩ ?_
  rintro σ H1 ⟨s1,bs,pa,s4,npa,rfl,L,ePa,hL⟩;refine⟨_,rfl,pa,_,rfl,.inl (SqL.of ePa),?_⟩;refine⟨_,rfl,_,_,rfl,rfl,_,_,rfl,rfl,_,rfl,?_⟩;rw[List.length_map];refine ite2 (λc=>?_) (λc=>?_)
  ·have c':L.length<p^m-1:=by have:=of_decide_eq_true c;lia
   have hlt:bs<b:=by
    rcases hL with⟨rfl,rfl⟩|h
    ·rw[zdJ]at c';lia
    ·exact h.1
   refine⟨λσ' H'=>Same H H'/\Ex2 λpa s4=>H pa=none/\σ'=[some (.ref fa),some (Vn (p^m)),some (.ref pa),some (Vn (bs+1)),s4,none]/\∃L:List Nat,H' pa=some (.lst (L.map Vn))/\((bs+1=b/\L=Pws p m t b)\/(bs+1<b/\L.length<p^m-1)),?_,?_⟩
   ·rintro σ' H' ⟨s2,pa2,s5,n2,rfl,L2,e2,h2⟩;refine⟨_,?_,rfl,s2,bs+1,pa2,s5,n2,rfl,L2,e2,h2⟩;show b-(bs+1)<b-bs;lia
   refine⟨_,rfl,_,_,rfl,rfl,?_⟩;refine⟨szl 1,λl1 hl1=>?_⟩;refine⟨_,rfl,_,_,rfl,rfl,_,_,_,rfl,?_⟩;have n1:H l1=none:=by
    cases e:H l1 with
    |none=>rfl
    |some o=>rw[s1 _ _ e]at hl1;cases hl1
   have hb1:bs+1<p^m:=by lia
   have nfa:fa≠l1:=yac hf n1
   let I3:St->Hp->Prop:=λσ H'=>yar l1 l1 H1 H'/\∃k,An5 (1<=k) (k<=p^m-1) (σ=[some (.ref fa),some (Vn (p^m)),some (.ref l1),some (Vn (bs+1)),some (Vn (pw p m t (bs+1) k)),none]) (H' l1=some (.lst (((List.range k).map (pw p m t (bs+1))).map Vn))) (∀i,0<i->i<k->pw p m t (bs+1) i≠1)
   refine yaD I3
    (λ_ H'=>p^m-ydO H' l1) ⟨Same.x (yaa hl1 _),1,by lia,by lia,?_,zaa,λi h1 h2=>by lia⟩ ?_
   ·rw[yb2 hp hm hb1];rfl
   rintro σ H2 ⟨sx2,k,hk1,hk2,rfl,e2,hne⟩;have hlen:ydO H2 l1=k:=by rw[zcv e2];simp
   refine⟨_,rfl,rfl,_,rfl,?_⟩;refine ite2 (λc=>?_) (λc=>?_)
   ·have hk:pw p m t (bs+1) k≠1:=by
     intro e;rw[e]at c;exact absurd c (by decide)
    have hk3:k<p^m-1:=by
     rcases Nat.lt_or_ge k (p^m-1) with h|h
     ·exact h
     ·have:k=p^m-1:=by lia
      rw[this]at hk;exact absurd (G.fermat (by lia) hb1) hk
    have hf2:H2 fa=some (.tup [Vn p,Vn m,Vn t]):=sx2 _ _ nfa nfa (s1 _ _ hf);have e3:((List.range k).map (pw p m t (bs+1))).map Vn++[Vn (pw p m t (bs+1) k)]=((List.range (k+1)).map (pw p m t (bs+1))).map Vn:=by
     rw[List.range_succ,List.map_append,List.map_append];rfl
    refine⟨λσ' H'=>yar l1 l1 H1 H'/\σ'=[some (.ref fa),some (Vn (p^m)),some (.ref l1),some (Vn (bs+1)),some (Vn (pw p m t (bs+1) (k+1))),none]/\H' l1=some (.lst (((List.range (k+1)).map (pw p m t (bs+1))).map Vn)),?_,?_⟩
    ·rintro σ' H' ⟨a1,rfl,a3⟩;have hl2:ydO H' l1=k+1:=by rw[zcv a3];simp
     refine⟨_,?_,rfl,a1,k+1,by lia,by lia,rfl,a3,λi h1 h2=>?_⟩
     ·show p^m-ydO H' l1<p^m-ydO H2 l1;rw[hl2,hlen];lia
     ·rcases Nat.lt_or_ge i k with h|h
      ·exact hne i h1 h
      ·rw[show i=k by lia];exact hk
    refine⟨_,rfl,.inl ⟨rfl,_,SqL.of e2⟩,_,rfl,?_⟩;refine⟨l1,_,_,rfl,rfl,e2,by simp only[List.length_map,List.length_range];exact zai (by lia),?_⟩;rw[e3];have s3:yar l1 l1 H1 (upd H2 l1 (.lst (((List.range (k+1)).map (pw p m t (bs+1))).map Vn))):=zf7 sx2;refine⟨_,rfl,_,rfl,_,rfl,fa,p,m,t,pw p m t (bs+1) k,bs+1,rfl,SqT.of (by rw[zad nfa];exact hf2),hp,hm,hpm,ht,yaw hp hm _ _,hb1,λr H4 s4' br hr=>?_⟩;have e:=zb1 hp hm br hr;subst e;exact⟨s3.trans (Same.x s4'),rfl,s4' _ _ zaa⟩
   ·have hk:pw p m t (bs+1) k=1:=by
     rcases Nat.decEq (pw p m t (bs+1) k) 1 with h|h
     ·exfalso
      refine c ?_;rw[decide_eq_false];rfl;intro e;injection e with e;exact h (by lia)
     ·exact h
    refine⟨(s1.trans (zdt (sx2) hl1)),l1,_,n1,rfl,_,e2,?_⟩;rcases Nat.lt_or_ge (bs+1) b with h|h
    ·refine .inr ⟨h,?_⟩;obtain⟨i,i0,i1,ie⟩:=Pb.low (bs+1) (by lia) h;simp only[List.length_map,List.length_range];rcases Nat.lt_or_ge i k with h3|h3
     ·exact absurd ie (hne i i0 h3)
     ·lia
    ·have hbb:bs+1=b:=by lia
     refine .inl ⟨hbb,?_⟩;rw[hbb]at hk ⊢;have:k=p^m-1:=by
      rcases Nat.lt_or_ge k (p^m-1) with h3|h3
      ·exact absurd hk (Pb.min k (by lia) h3)
      ·lia
     rw[this];rfl
  ·have c':¬ L.length<p^m-1:=by
    intro h;exact c (decide_eq_true (by lia))
   rcases hL with⟨rfl,rfl⟩|h
   ·exact hD _ _ ⟨s1,pa,s4,npa,ePa,rfl⟩
   ·exact absurd h.2 c'
theorem zhM{p m:Nat}:valV (tabD fa pa la p m) (.inr "p")=some (Vn p):=rfl
theorem yiE{p m:Nat}:valV (tabD fa pa la p m) (.inr "m")=some (Vn m):=rfl
theorem ybK{p m:Nat}:valV (tabD fa pa la p m) (.inr "many")=some (Vn (p^m)):=rfl
theorem zde{p m:Nat}:valV (tabD fa pa la p m) (.inr "powers")=some (.ref pa):=rfl
theorem zdr{p m:Nat}:valV (tabD fa pa la p m) (.inr "logs")=some (.ref la):=rfl
theorem zf6{p m:Nat}:valV (tabD fa pa la p m) (.inr "field")=some (.ref fa):=rfl
theorem Tab.get{p m t b:Nat}(T:Tab H tb fa pa la p m t b)(h:valV (tabD fa pa la p m) (.inr x)=some v):DGet H tb (.str x) (some v):=by
 rw[<-h];exact DGet.k (k:=.inr x) T.d
theorem Tab.log{p m t b:Nat}(T:Tab H tb fa pa la p m t b){i:Nat}(h:i<p^m-1):DGet H la (Vn (pw p m t b i)) (some (Vn i)):=by
 have e:valV (Logs p m t b) (.inl ((pw p m t b i:Nat):Int))=some (Vn i):=by
  unfold Logs;refine zfb _ _ rfl (λi j hi hj e=>T.good.inj T.prim i j hi hj ?_) i h;injection e with e
  lia
 rw[<-e];exact DGet.k (k:=.inl ((pw p m t b i:Nat):Int)) T.l
theorem zig(x y i:Nat):dg 2 i (x ^^^ y)=(dg 2 i x+dg 2 i y)%2:=by
 have e:∀z,dg 2 i z=(z.testBit i).toNat:=λz=>by unfold dg;rw[Nat.toNat_testBit]
 rw[e,e,e,Nat.testBit_xor];cases x.testBit i <;> cases y.testBit i <;> rfl
theorem yhX:∀x:Nat,x<64->∀y:Nat,y<64->Builtin.bitXor (x:Int) (y:Int)=((x ^^^ y:Nat):Int):=by decide +kernel
theorem ybq(x:Nat):decide (Vn x=V.int 0)=decide (x=0):=decide_eq_decide.mpr ⟨λe=>by injection e with e;lia,λe=>by rw[e];rfl⟩
inductive zct (vs:List V) (H:Hp) (Q:VK) (E:XK):Prop
 |mk (tb fa pa la:Addr) (p m t b x y:Nat) (c1:vs=[.ref tb,Vn x,Vn y]) (c2:Tab H tb fa pa la p m t b) (c3:x<p^m) (c4:y<p^m) (c5:Q (Vn (add p m x y)) H):zct vs H Q E
theorem yba:yad ["_law_table_here","_law_one","_law_other","_law_p","_law_found","_law_place"] ["_law_table_here","_law_one","_law_other"] (zac ybS):=⟨rfl,rfl,rfl,by decide +kernel,rfl,by decide +kernel,by decide +kernel⟩
theorem ygR(B:Bl mg)(F:Fun K "_law_plus" "_law_plus" ybS f fd):FnOk P w K mg base CX0 1 f fd ["_law_table_here","_law_one","_law_other"] zct:=by
 refine F.ok yba (λvs H Q E h=>?_) (λcdv A outer s H vs Q E hr h=>?_)
 ·obtain⟨tb,fa,pa,la,p,m,t,b,x,y,rfl,_⟩:=h;rfl
 obtain⟨tb,fa,pa,la,p,m,t,b,x,y,rfl,T,hx,hy,q⟩:=h;have hp:=T.good.hp;have hm:=T.good.hm;refine⟨_,((@yen _ _ 3 4 5 _ _ _ _ _ _ _ _ _ _ _ _ _ _ rfl yba.nd rfl rfl rfl (by decide) rfl rfl rfl (((pv 0)⊃zaF)>=>yab>=>yab>=>zab) rfl ⋯)<=<((zbN∪(pv 3)∪yab)*>((~~~((yip|||(pv 1)|||(pv 2))⁻¹)),yao))<=<(@yaC _ _ _ _ _ _ PassesOwn.never (yco∪(yag|||(pv 1)|||(pv 2))∪yab) ((4<|>yba.nd<|>(yag|||(pv 4)|||(zav|||(zax|||(yag|||(pv 1)|||(pv 2))|||(pv 3))|||(pv 5))))<=<(~~~(@yen _ _ 1 2 5 _ _ _ _ _ _ _ _ _ _ _ _ _ _ rfl yba.nd rfl rfl rfl (by decide) rfl rfl rfl ((zcl|||(pv 1)|||(pv 3))>=>(zcl|||(pv 2)|||(pv 3))>=>(zav|||(pv 5)|||(pv 3))>=>zab) rfl ⋯))))<=<(~~~((pv 4)⁻¹))),?_⟩
 try dsimp only[cxOf]
 refine⟨_,rfl,tb,_,rfl,T.get zhM,_,_,_,rfl,?_⟩;refine⟨_,rfl,rfl,_,rfl,?_⟩;refine ite2 (λc=>?_) (λc=>?_)
 ·have hp2:p=2:=by
   have e:=of_decide_eq_true c;injection e with e
   lia
  subst hp2;refine⟨_,rfl,_,rfl,_,_,rfl,rfl,?_⟩;have e:V.int (Builtin.bitXor (x:Int) (y:Int))=Vn (add 2 m x y):=by
   show V.int _=V.int _;congr 1;rw[yhX x (by have:=T.good.hq;lia) y (by have:=T.good.hq;lia)];congr 1;exact zeY hp hm hx hy λi=>zig x y i
  show Q (V.int (Builtin.bitXor (x:Int) (y:Int))) _;rw[e];exact q
 ·let I4:St->Hp->Prop:=λσ H'=>H'=H/\Ex4 λ(k o u tt:Nat)=>An5 (σ=[some (.ref tb),some (Vn o),some (Vn u),some (Vn p),some (Vn tt),some (Vn (p^k))]) (o=x/p^k) (u=y/p^k) (tt<p^k) (∀i,i<k->dg p i tt=(dg p i x+dg p i y)%p)
  refine yaD I4
   (λσ _=>mI σ 1+mI σ 2) ⟨rfl,0,x,y,0,rfl,by simp,by simp,by simp,λi hi=>absurd hi (Nat.not_lt_zero _)⟩ ?_
  rintro σ H' ⟨rfl,k,o,u,tt,rfl,ho,hu,ht,hd⟩;have hp64:=p_le hp hm T.good.hq;have pk:0<p^k:=Nat.pow_pos (by lia);refine⟨_,rfl,_,rfl,_,_,rfl,rfl,_,_,rfl,rfl,_,rfl,?_⟩;refine ite2 (λc=>?_) (λc=>?_)
  ·have c':0<o+u:=by have:=of_decide_eq_true c;lia
   refine⟨λσ' H''=>H''=H'/\σ'=[some (.ref tb),some (Vn (o/p)),some (Vn (u/p)),some (Vn p),some (Vn (tt+(o+u)%p*p^k)),some (Vn (p^k*p))],?_,?_⟩
   ·rintro σ' H'' ⟨rfl,rfl⟩;have l1:o/p<=o:=Nat.div_le_self _ _;have l2:u/p<=u:=Nat.div_le_self _ _;have l3:o/p<o\/u/p<u:=by
     rcases Nat.eq_zero_or_pos o with h|h
     ·exact .inr (Nat.div_lt_self (by lia) (by lia))
     ·exact .inl (Nat.div_lt_self h (by lia))
    refine⟨_,?_,rfl,rfl,k+1,o/p,u/p,tt+(o+u)%p*p^k,rfl,?_,?_,?_,λi hi=>?_⟩
    ·show o/p+u/p<o+u;lia
    ·rw[ho,Nat.pow_succ,Nat.div_div_eq_div_mul]
    ·rw[hu,Nat.pow_succ,Nat.div_div_eq_div_mul]
    ·exact zfx ht (Nat.mod_lt _ (by lia))
    ·rw[zfZ hp ht (Nat.mod_lt _ (by lia))];by_cases e:i=k
     ·rw[if_pos e,ho,hu,e];unfold dg;rw[Nat.add_mod]
     ·rw[if_neg e];exact hd i (by lia)
   ·refine⟨_,rfl,_,rfl,_,rfl,_,_,rfl,rfl,_,rfl,_,_,rfl,rfl,?_⟩;refine⟨by show(0:Int)<p;lia,_,rfl,_,_,rfl,rfl,?_⟩;have hmm:(o+u)%p<p:=Nat.mod_lt _ (by lia);refine⟨.inl ⟨by show -(2^64:Int)<(((o+u)%p:Nat):Int);lia,by show(((o+u)%p:Nat):Int)<2^64;lia⟩,_,_,rfl,rfl,?_⟩;refine⟨_,rfl,_,rfl,_,_,rfl,rfl,⟨by show(0:Int)<p;lia,by show(p:Int)<2^64;lia⟩,?_⟩;refine⟨_,rfl,_,rfl,_,_,rfl,rfl,⟨by show(0:Int)<p;lia,by show(p:Int)<2^64;lia⟩,?_⟩;refine⟨_,rfl,_,rfl,_,_,rfl,rfl,.inr ⟨by show -(2^64:Int)<p;lia,by show(p:Int)<2^64;lia⟩,?_⟩;exact⟨_,_,_,rfl,rfl,rfl⟩
  ·have c':o=0/\u=0:=by
    have:¬ (0:Int)<(o:Int)+(u:Int):=λh=>c (decide_eq_true h)
    lia
   refine⟨_,rfl,?_⟩;have e:tt=add p m x y:=zeY hp hm hx hy λi=>by
    by_cases e:i<k
    ·exact hd i e
    ·have hx:x<p^k:=by
      rcases Nat.lt_or_ge x (p^k) with h|h
      ·exact h
      ·have:=Nat.div_pos h pk;lia
     have hy:y<p^k:=by
      rcases Nat.lt_or_ge y (p^k) with h|h
      ·exact h
      ·have:=Nat.div_pos h pk;lia
     rw[zal hp ht (by lia),zal hp hx (by lia),zal hp hy (by lia)];simp
   subst e;exact q
inductive ybk (vs:List V) (H:Hp) (Q:VK) (E:XK):Prop
 |mk (tb fa pa la:Addr) (p m t b x y:Nat) (c1:vs=[.ref tb,Vn x,Vn y]) (c2:Tab H tb fa pa la p m t b) (c3:x<p^m) (c4:y<p^m) (c5:Q (Vn (mul p m t x y)) H):ybk vs H Q E
theorem zb2:yad ["_law_table_here","_law_one","_law_other","_law_at"] ["_law_table_here","_law_one","_law_other"] (zac zbC):=⟨rfl,rfl,rfl,by decide +kernel,rfl,by decide +kernel,by decide +kernel⟩
theorem ygd(B:Bl mg)(F:Fun K "_law_times" "_law_times" zbC f fd):FnOk P w K mg base CX0 1 f fd ["_law_table_here","_law_one","_law_other"] ybk:=by
 refine F.ok zb2 (λvs H Q E h=>?_) (λcdv A outer s H vs Q E hr h=>?_)
 ·obtain⟨tb,fa,pa,la,p,m,t,b,x,y,rfl,_⟩:=h;rfl
 obtain⟨tb,fa,pa,la,p,m,t,b,x,y,rfl,T,hx,hy,q⟩:=h;have hp:=T.good.hp;have hm:=T.good.hm;refine⟨_,(((@PW.pt _ _ _ (@zft _ _ _ _ _ _ _ (zbN∪(pv 1)∪yab) (@yd1 _ _ _ _ (zbN∪(pv 2)∪yab))))*>((~~~(yab⁻¹)),yao))<=<(3<|>zb2.nd<|>(yag|||(((pv 0)⊃zaF)⊃(pv 1))|||(((pv 0)⊃zaF)⊃(pv 2))))<=<(~~~((yah<<<((pv 0)⊃zaF)<<<(zax|||(pv 3)|||(yan|||((pv 0)⊃zaF)|||yab)))⁻¹))),?_⟩
 try dsimp only[cxOf]
 refine yhd (b1:=decide (x=0)) (b2:=decide (y=0)) (λQ q=>⟨_,rfl,rfl,_,rfl,?_⟩) (λQ q=>⟨_,rfl,rfl,_,rfl,?_⟩) ?_
 ·rw[ybq];exact q
 ·rw[ybq];exact q
 refine ite2 (λc=>?_) (λc=>?_)
 ·have e:mul p m t x y=0:=by
   simp only[Bool.or_eq_true,decide_eq_true_eq]at c;rcases c with rfl|rfl
   ·exact zero_mul hp hm _
   ·exact mul_zero hp hm _
  rw[e]at q;exact q
 ·simp only[Bool.or_eq_true,decide_eq_true_eq,not_or]at c;obtain⟨i,hi,ei⟩:=T.prim.all x (by lia) hx;obtain⟨j,hj,ej⟩:=T.prim.all y (by lia) hy;have hQ2:=zap hp hm;have hQ:=T.good.hq;have gi:=T.log hi;have gj:=T.log hj;rw[ei]at gi;rw[ej]at gj;refine⟨_,rfl,tb,_,rfl,T.get zdr,_,rfl,la,_,rfl,gi,?_⟩;refine⟨_,rfl,tb,_,rfl,T.get zdr,_,rfl,la,_,rfl,gj,_,_,rfl,rfl,?_⟩;refine⟨_,rfl,tb,_,rfl,T.get zde,?_⟩;refine⟨_,rfl,_,rfl,tb,_,rfl,T.get ybK,_,_,rfl,rfl,_,_,rfl,rfl,by show(0:Int)<((p^m:Nat):Int)-1;lia,?_⟩;have ek:((i:Int)+(j:Int))%(((p^m:Nat):Int)-1)=(((i+j)%(p^m-1):Nat):Int):=by
   rw[Int.natCast_emod,Int.natCast_add,Int.natCast_sub (by lia)];rfl
  have hk:(i+j)%(p^m-1)<p^m-1:=Nat.mod_lt _ (by lia);refine⟨pa,_,_,Vn (pw p m t b ((i+j)%(p^m-1))),rfl,rfl,SqL.of T.w,?_,?_⟩
  ·show atI _ (((i:Int)+(j:Int))%(((p^m:Nat):Int)-1))=_;rw[ek];exact zaz (by unfold Pws;rw[List.getElem?_map,List.getElem?_map,List.getElem?_range hk];rfl)
  ·have e:pw p m t b ((i+j)%(p^m-1))=mul p m t x y:=by
    rw[T.good.pw_mod T.prim.pos T.prim.lt,ya1 hp hm,ei,ej]
   rw[e];exact q
end
end My
end
section
namespace My
open PySem L2 Dg
theorem zar{ws:List Nat}{i:Nat}(h:i<ws.length):(ws.map Vn)[i]?=some (Vn (ws.getD i 0)):=by
 rw[List.getElem?_map,List.getElem?_eq_getElem h];simp[List.getD,h]
theorem zaG{xs:List Nat}{n i:Nat}(h:∀x∈xs,x<n)(hi:i<xs.length):xs.getD i 0<n:=by
 have e:xs.getD i 0=xs[i]:=by simp[List.getD,hi]
 rw[e];exact h _ (List.getElem_mem hi)
theorem zaX{l:Addr}{o:HO}(s:Same H H')(h:H l=none):Same H (upd H' l o):=λb u e=>by rw[zad (yac e h)];exact s _ _ e
theorem mapI(ns:List Nat):(ns.map λn:Nat=>(n:Int)).map V.int=ns.map Vn:=by rw[List.map_map];rfl
structure yis(pu g tb fa pa la:Addr):Prop where
 a1:tb≠pu
 a2:tb≠g
 b1:fa≠pu
 b2:fa≠g
 c1:pa≠pu
 c2:pa≠g
 d1:la≠pu
 d2:la≠g
theorem Tab.x{p m t b:Nat}(T:Tab H tb fa pa la p m t b)(a:yis pu g tb fa pa la)(s:yar pu g H H'):Tab H' tb fa pa la p m t b :=
 ⟨s _ _ a.a1 a.a2 T.d,s _ _ a.b1 a.b2 T.f,s _ _ a.c1 a.c2 T.w,s _ _ a.d1 a.d2 T.l,T.good,T.prim⟩
def trim:List Nat->List Nat
 | []=>[]
 |x::xs=>match trim xs with
  | []=>if x=0 then [] else [x]
  |r=>x::r
theorem yca:∀l:List Nat,trim (l++[0])=trim l
 | []=>rfl
 |x::xs=>by
  show(match trim (xs++[0]) with | []=>_|r=>_)=(match trim xs with | []=>_|r=>_)
  rw[yca xs]
theorem zcz{x:Nat}(h:x≠0):∀l:List Nat,trim (l++[x])=l++[x]
 | []=>by show(if x=0 then [] else [x])=[x];rw[if_neg h]
 |y::xs=>by
  show(match trim (xs++[x]) with | []=>_|r=>_)=y::(xs++[x]);rw[zcz h xs];cases xs <;> rfl
theorem zbK{l:List Nat}{e:Nat}(h:e<l.length):l.take (e+1)=l.take e++[l.getD e 0]:=by
 rw[List.take_add_one,List.getElem?_eq_getElem h];simp[List.getD,h]
theorem zeH:∀l:List Nat,(trim l).length<=l.length
 | []=>Nat.le_refl _
 |x::xs=>by
  have ih:=zeH xs;show(match trim xs with | []=>if x=0 then [] else [x]|r=>x::r).length<=xs.length+1;split
  ·split <;> simp
  ·rename_i e;rw[List.length_cons];omega
theorem ycw:∀(l:List Nat) (x:Nat),x∈trim l->x∈l
 | [],x,h=>h
 |y::xs,x,h=>by
  have h:x∈(match trim xs with | []=>if y=0 then [] else [y]|r=>y::r):=h;split at h
  ·split at h
   ·simp at h
   ·simp at h;simp[h]
  ·rcases List.mem_cons.mp h with h|h
   ·simp[h]
   ·exact List.mem_cons_of_mem _ (ycw xs x h)
theorem ydP:∀l:List Nat,trim (trim l)=trim l
 | []=>rfl
 |x::xs=>by
  have ih:=ydP xs;cases e:trim xs with
  |nil=>
   have e2:trim (x::xs)=if x=0 then [] else [x]:=by show(match trim xs with | []=>_|r=>_)=_;rw[e]
   rw[e2];by_cases h:x=0
   ·rw[if_pos h];rfl
   ·rw[if_neg h];show(if x=0 then [] else [x])=[x];rw[if_neg h]
  |cons y r=>
   have e2:trim (x::xs)=x::y::r:=by show(match trim xs with | []=>_|r=>_)=_;rw[e]
   rw[e2];rw[e]at ih;show(match trim (y::r) with | []=>_|r=>_)=_;rw[ih]
section
variable {P:Program} {w:World} {mg:Str->Option Value} {base:Heap} {f:Addr} {fd:FuncData}
theorem ygz(xs:List V)(e:Nat)(h:e<=xs.length):cutV xs none (some (e:Int))=xs.take e:=by
 have h1:HT.sIx xs.length 0 none=0:=rfl;have h2:HT.sIx xs.length xs.length (some (e:Int))=e:=by
  simp only[HT.sIx];rw[if_neg (by omega)];simp;omega
 unfold cutV;rw[h1,h2,List.drop_zero,Nat.sub_zero]
inductive ycK (K:PySem.W.Frag) (vs:List V) (H:Hp) (Q:VK) (E:XK):Prop
 |mk (a:Addr) (ns:List Nat) (c1:vs=[.ref a]) (c2:SqL K H a (ns.map Vn)) (c3:ns.length<=1000) (c4:∀r H',Same H H'->H r=none->H' r=some (.tup ((trim ns).map Vn))->Q (.ref r) H'):ycK K vs H Q E
theorem zcf:yad ["things","end"] ["things"] (zac ycZ):=⟨rfl,rfl,rfl,by decide +kernel,rfl,by decide +kernel,by decide +kernel⟩
end
end My
end
section
namespace My
open PySem L2 Dg
noncomputable def zbt(p m t:Nat)(xs ys:List Nat)(i j:Nat):List Nat:=(List.range (xs.length+ys.length)).map λn=>add p m (zdq p m t xs ys i n) (if i<=n/\n-i<j then mul p m t (xs.getD i 0) (ys.getD (n-i) 0) else 0)
def rmul(p m t:Nat)(xs ys:List Nat):List Nat:=trim ((List.range (xs.length+ys.length)).map (conv p m t xs ys))
section
variable {p m t:Nat} (hp:2<=p) (hm:1<=m)
include hp hm
theorem ycR(xs ys:List Nat)(i j:Nat):(zbt p m t xs ys i j).length=xs.length+ys.length:=by simp[zbt]
theorem zfg(xs ys:List Nat):zbt p m t xs ys 0 0=List.replicate (xs.length+ys.length) 0:=by
 unfold zbt;refine List.ext_getElem (by simp) λn h1 h2=>?_
 simp only[List.getElem_map,List.getElem_range,List.getElem_replicate];rw[if_neg (by lia)];exact add_zero hp hm (zae hp hm)
theorem yfo(xs ys:List Nat)(i:Nat):zbt p m t xs ys i ys.length=zbt p m t xs ys (i+1) 0:=by
 unfold zbt;refine List.map_congr_left λn _=>?_
 rw[if_neg (show ¬ (i+1<=n/\n-(i+1)<0) by lia),add_zero hp hm (ycv hp hm _ _ _ _)];show _=add p m (zdq p m t xs ys i n) _;congr 1;dsimp only;by_cases h:i<=n
 ·rw[if_pos h];by_cases h2:n-i<ys.length
  ·rw[if_pos ⟨h,h2⟩]
  ·rw[if_neg (by lia),yas (xs:=ys) (by lia),mul_zero hp hm]
 ·rw[if_neg (by lia),if_neg h]
theorem yfI(xs ys:List Nat):zbt p m t xs ys xs.length 0=(List.range (xs.length+ys.length)).map (conv p m t xs ys):=by
 unfold zbt;refine List.map_congr_left λn _=>?_
 rw[if_neg (by lia),add_zero hp hm (ycv hp hm _ _ _ _),zf3 hp hm]
theorem ygi{xs ys:List Nat}{i j:Nat}(hi:i<xs.length)(hj:j<ys.length):(zbt p m t xs ys i j).getD (i+j) 0=zdq p m t xs ys i (i+j):=by
 unfold zbt;rw[List.getD_eq_getElem?_getD,List.getElem?_map,List.getElem?_range (by lia)];show add p m _ (if _ then _ else 0)=_;rw[if_neg (by lia),add_zero hp hm (ycv hp hm _ _ _ _)]
theorem yfy{xs ys:List Nat}{i j:Nat}(hi:i<xs.length)(hj:j<ys.length):(zbt p m t xs ys i j).set (i+j) (add p m (zdq p m t xs ys i (i+j)) (mul p m t (xs.getD i 0) (ys.getD j 0)))=zbt p m t xs ys i (j+1):=by
 refine List.ext_getElem (by simp[ycR hp hm]) λn h1 h2=>?_
 rw[List.getElem_set];by_cases e:i+j=n
 ·subst e;rw[if_pos rfl];simp only[zbt,List.getElem_map,List.getElem_range];rw[if_pos (by lia),show i+j-i=j by lia]
 ·rw[if_neg e];simp only[zbt,List.getElem_map,List.getElem_range];by_cases h:i<=n/\n-i<j
  ·rw[if_pos h,if_pos (by lia)]
  ·rw[if_neg h,if_neg (by lia)]
end
theorem yeC(l:List Nat)(i x:Nat):(l.map Vn).set i (Vn x)=(l.set i x).map Vn:=by rw[List.map_set]
theorem zd9{n j:Nat}(h:j<n):ixN n (j:Int)=some j:=by unfold ixN;rw[if_pos (by lia),if_pos (by lia)];rfl
theorem zcx(n:Nat):(List.replicate n [V.int 0]).flatten=(List.replicate n 0).map Vn:=by
 induction n with
 |zero=>rfl
 |succ n ih=>rw[List.replicate_succ,List.flatten_cons,ih,List.replicate_succ];rfl
section
variable {P:Program} {w:World} {mg:Str->Option Value} {base:Heap} {f:Addr} {fd:FuncData}
inductive ycU (K:PySem.W.Frag) (vs:List V) (H:Hp) (Q:VK) (E:XK):Prop
 |mk (fa a b:Addr) (p m t:Nat) (xs ys:List Nat) (c1:vs=[.ref fa,.ref a,.ref b]) (c2:Fld K H fa p m t) (c3:Good p m t) (c4:SqT K H a (xs.map Vn)) (c5:SqT K H b (ys.map Vn)) (c6:xs.length<=200) (c7:ys.length<=200) (c8:(∀x∈xs,x<p^m)) (c9:(∀y∈ys,y<p^m)) (c10:∀r H',Same H H'->H r=none->H' r=some (.tup ((rmul p m t xs ys).map Vn))->Q (.ref r) H'):ycU K vs H Q E
theorem zaJ:yad ["field","one","other","product","i","a","j","b"] ["field","one","other"] (zac zbP):=⟨rfl,rfl,rfl,by decide +kernel,rfl,by decide +kernel,by decide +kernel⟩
theorem yfC(B:Bl mg)(h_plus:Has P w K mg base 1 "plus" ["field","one","other"] (zbQ K))(h_times:Has P w K mg base 3 "times" ["field","one","other"] (zba K))(h_trimmed:Has P w K mg base 1 "trimmed" ["things"] (ycK K))(F:Fun K "row_times" "row_times" zbP f fd):FnOk P w K mg base CX0 4 f fd ["field","one","other"] (ycU K):=by
 refine F.ok zaJ (λvs H Q E h=>?_) (λcdv A outer s H vs Q E hr h=>?_)
 ·obtain⟨fa,a,b,p,m,t,xs,ys,rfl,_⟩:=h;rfl
 obtain⟨fa,a,b,p,m,t,xs,ys,rfl,hF,G,ha,hb,lx,ly,hx,hy,q⟩:=h;have hp:=G.hp;have hm:=G.hm;have hp2:=p_le hp hm G.hq;refine⟨_,((3<|>zaJ.nd<|>(zcn|||(@zaq _ _ _ _ (yab>=>zab))|||(yag|||(yae>>>("len",PySem.boot_len,((pv 1)>=>zab)))|||(yae>>>("len",PySem.boot_len,((pv 2)>=>zab))))))<=<((@ybw _ _ _ _ _ _ _ _ rfl (B "enumerate" (by decide)) ((pv 1)>=>zab) ⋯)<&>((@ycb _ _ _ _ _ _ rfl ((4&&&zaJ.nd)∩((5&&&zaJ.nd)∩yav)) ⋯ ⋯),(~~~((@ybw _ _ _ _ _ _ _ _ rfl (B "enumerate" (by decide)) ((pv 2)>=>zab) ⋯)<&>((@ycb _ _ _ _ _ _ rfl ((6&&&zaJ.nd)∩((7&&&zaJ.nd)∩yav)) ⋯ ⋯),(~~~(@zbO _ _ _ _ _ _ (h_plus<$>((pv 0)>=>(yah<<<(pv 3)<<<(yag|||(pv 4)|||(pv 6)))>=>(h_times<$>((pv 0)>=>(pv 5)>=>(pv 7)>=>zab))>=>zab)) (@zca _ _ _ _ _ _ _ (pv 3) (yag|||(pv 4)|||(pv 6)) zaP (by intro _;rfl)) ⋯ ⋯ ⋯)))))))<=<(~~~((h_trimmed<$>((pv 3)>=>zab))⁻¹))),?_⟩
 try dsimp only[cxOf]
 refine⟨szl 1,λl0 hl0=>?_⟩;have s0:=yaa hl0 (.lst [V.int 0]);refine⟨_,rfl,a,_,rfl,.inr (Same.tup s0 ha),_,rfl,b,_,rfl,.inr (Same.tup s0 hb),_,_,rfl,rfl,?_⟩;have eN:(((xs.map Vn).length:Nat):Int)+(((ys.map Vn).length:Nat):Int)=((xs.length+ys.length:Nat):Int):=by simp
 refine⟨l0,_,_,rfl,rfl,zaa,by rw[eN];lia,by rw[eN];lia,by rw[eN,Int.toNat_natCast];exact szl _ (by simp;lia),λl hl=>?_⟩;rw[eN,Int.toNat_natCast,zcx,<-zfg (t:=t) hp hm];have nl:=s0.free hl;have s1:=zaX (l:=l) (o:=.lst ((zbt p m t xs ys 0 0).map Vn)) s0 nl;refine⟨_,rfl,true,a,rfl,⟨_,Same.tup s1 ha⟩,?_⟩
 let I1:Nat->St->Hp->Prop:=λi σ H'=>An3 (Same H H') (H' l=some (.lst ((zbt p m t xs ys i 0).map Vn))) (Ex4 λs4 s5 s6 s7=>σ=[some (.ref fa),some (.ref a),some (.ref b),some (.ref l),s4,s5,s6,s7])
 refine yaG (zaV (b:=true) (xs:=xs.map Vn)) I1 ⟨s1,zaa,none,none,none,none,rfl⟩ (λi σ H' _ h=>Same.tup h.1 ha) ?_ ?_
 ·rintro i z σ H1 H2 hi ⟨sm,el,s4,s5,s6,s7,rfl⟩ ⟨T,u,rfl,eu,hT,rfl⟩;rw[List.length_map]at hi;rw[zar hi]at eu;cases eu;have sT:=yaa hT (.tup [.int (i:Int),Vn (xs.getD i 0)]);refine⟨T,_,rfl,SqT.of zaa,rfl,_,_,rfl,_,_,rfl,rfl,?_⟩;refine⟨_,rfl,true,b,rfl,⟨_,Same.tup (sm.trans sT) hb⟩,?_⟩
  let I2:Nat->St->Hp->Prop:=λj σ H'=>An3 (Same H H') (H' l=some (.lst ((zbt p m t xs ys i j).map Vn))) (Ex2 λs6 s7=>σ=[some (.ref fa),some (.ref a),some (.ref b),some (.ref l),some (Vn i),some (Vn (xs.getD i 0)),s6,s7])
  refine yaG (zaV (b:=true) (xs:=ys.map Vn)) I2 ⟨sm.trans sT,sT _ _ el,_,_,rfl⟩ (λj σ H' _ h=>Same.tup h.1 hb) ?_ ?_
  ·rintro j z σ H3 H4 hj ⟨sm3,el3,s6,s7,rfl⟩ ⟨T2,u,rfl,eu,hT2,rfl⟩;rw[List.length_map]at hj;rw[zar hj]at eu;cases eu;have sT2:=yaa hT2 (.tup [.int (j:Int),Vn (ys.getD j 0)]);have sm4:=sm3.trans sT2;refine⟨T2,_,rfl,SqT.of zaa,rfl,_,_,rfl,_,_,rfl,rfl,?_⟩;have el4:=sT2 _ _ el3;refine⟨_,rfl,_,rfl,_,rfl,_,rfl,_,_,rfl,rfl,?_⟩;refine⟨l,_,((i+j:Nat):Int),Vn (zdq p m t xs ys i (i+j)),rfl,rfl,SqL.of el4,?_,?_⟩
   ·refine zaz ?_;rw[zar (by rw[ycR hp hm];lia),ygi hp hm hi hj]
   refine⟨_,rfl,_,rfl,_,rfl,fa,p,m,t,xs.getD i 0,ys.getD j 0,rfl,Same.tup sm4 hF,hp,hm,G.hq,G.top,zaG hx hi,zaG hy hj,λr br h1=>?_⟩;cases zb1 hp hm br h1;refine⟨fa,p,m,t,zdq p m t xs ys i (i+j),mul p m t (xs.getD i 0) (ys.getD j 0),rfl,Same.tup sm4 hF,hp,hp2,λr h2=>?_⟩;cases zeY hp hm (ycv hp hm _ _ _ _) (yap hp hm _ _) h2;refine⟨_,rfl,_,rfl,_,rfl,_,_,rfl,rfl,?_⟩;refine⟨l,_,((i+j:Nat):Int),i+j,rfl,rfl,el4,?_,?_⟩
   ·rw[List.length_map,ycR hp hm];exact zd9 (by lia)
   ·rw[yeC,yfy hp hm hi hj];exact⟨zaX sm4 nl,zaa,_,_,rfl⟩
  ·rw[List.length_map];rintro σ H3 ⟨sm3,el3,s6,s7,rfl⟩;rw[yfo hp hm]at el3;exact⟨sm3,el3,_,_,_,_,rfl⟩
 ·rw[List.length_map];rintro σ H1 ⟨sm,el,s4,s5,s6,s7,rfl⟩;rw[yfI hp hm]at el;refine⟨_,rfl,l,_,rfl,SqL.of el,by simp;lia,λr H2 s2 nr er=>?_⟩;exact q r _ (sm.trans s2) (sm.free nr) er
end
end My
end
section
namespace My
open PySem L2 Dg
theorem yf0:∀l:List Nat,(∀i,l.getD i 0=0)->trim l=[]
 | [],_=>rfl
 |x::xs,h=>by
  have h0:x=0:=h 0;show(match trim xs with | []=>if x=0 then [] else [x]|r=>x::r)=[]
  rw[yf0 xs λi=>by have:=h (i+1);simpa using this,if_pos h0]
theorem zd6:∀(l:List Nat) (i:Nat),(trim l).getD i 0=l.getD i 0
 | [],i=>rfl
 |x::xs,i=>by
  have ih:=zd6 xs;show(match trim xs with | []=>if x=0 then [] else [x]|r=>x::r).getD i 0=_;cases e:trim xs with
  |nil=>
   rw[e]at ih;cases i with
   |zero=>
    by_cases h:x=0
    ·subst h;rfl
    ·(try dsimp only);rw[if_neg h];rfl
   |succ i=>
    have:=ih i;by_cases h:x=0
    ·subst h;simpa using this
    ·(try dsimp only);rw[if_neg h];simpa using this
  |cons y r=>
   rw[e]at ih;cases i with
   |zero=>rfl
   |succ i=>have:=ih i;simpa using this
theorem yea{n:Nat}{f:Nat->Nat}(i:Nat):((List.range n).map f).getD i 0=if i<n then f i else 0:=by
 rw[List.getD_eq_getElem?_getD,List.getElem?_map];by_cases h:i<n
 ·rw[List.getElem?_range h,if_pos h];rfl
 ·rw[List.getElem?_eq_none (by simpa using h),if_neg h];rfl
def wid(xs:List Nat)(n:Nat):List Nat:=xs++List.replicate (n-xs.length) 0
theorem zdI{xs:List Nat}{n:Nat}(h:xs.length<=n):(wid xs n).length=n:=by simp[wid];lia
theorem zg6{xs:List Nat}{n q:Nat}(hq:0<q)(h:∀x∈xs,x<q):∀x∈wid xs n,x<q:=by
 intro x hx;rcases List.mem_append.mp hx with h1|h1
 ·exact h x h1
 ·rw[(List.mem_replicate.mp h1).2];exact hq
section
variable {p m t:Nat} (hp:2<=p) (hm:1<=m)
include hp hm
theorem ydU{x y:Nat}(hx:x<p^m)(hy:y<p^m):add p m x (mul p m t (p-1) y)=sub p m x y:=by
 refine zbB hp (ya8 hp hm _ _) (zby hp hm _ _) λi hi=>?_
 rw[ybz hp hm _ _ i hi,yeU hp hm _ _ i hi,ybg hp hm _ _ i hi];have e:∀(k:Nat) (Y:Nat->Nat),1<=k->tn m (dgs p t) k (dgs p (p-1)) Y i=(p-1)*Y i:=by
  intro k Y hk;obtain⟨k,rfl⟩:∃k',k=k'+1:=⟨k-1,by lia⟩
  show dg p 0 (p-1)*Y i+tn m (dgs p t) k (λj=>dg p (j+1) (p-1)) (yay m (dgs p t) Y) i=_;rw[ycg _ _ _ _ (λj=>by rw[ybn,Nat.div_eq_of_lt (by lia),za6]),zbc,Nat.mod_eq_of_lt (by lia),Nat.add_zero]
 rw[e m _ hm,Nat.add_mod_mod]
end
section
variable {P:Program} {w:World} {mg:Str->Option Value} {base:Heap} {f:Addr} {fd:FuncData}
inductive yf5 (K:PySem.W.Frag) (vs:List V) (H:Hp) (Q:VK) (E:XK):Prop
 |mk (a:Addr) (xs:List Nat) (n:Nat) (c1:vs=[.ref a,Vn n]) (c2:SqT K H a (xs.map Vn)) (c3:xs.length<=n) (c4:n<=1000) (c5:∀r H',Same H H'->H r=none->H' r=some (.lst ((wid xs n).map Vn))->Q (.ref r) H'):yf5 K vs H Q E
theorem yfe:yad ["row","many"] ["row","many"] (zac zc2):=⟨rfl,rfl,rfl,by decide +kernel,rfl,by decide +kernel,by decide +kernel⟩
theorem yim(B:Bl mg)(F:Fun K "widened" "widened" zc2 f fd):FnOk P w K mg base CX0 1 f fd ["row","many"] (yf5 K):=by
 refine F.ok yfe (λvs H Q E h=>?_) (λcdv A outer s H vs Q E hr h=>?_)
 ·obtain⟨a,xs,n,rfl,_⟩:=h;rfl
 obtain⟨a,xs,n,rfl,ha,hl,hn,q⟩:=h;refine⟨_,(~~~((ycL|||(zcm<*("list",za7,((pv 0)>=>zab)))|||(zcn|||(@zaq _ _ _ _ (yab>=>zab))|||(yan|||(pv 1)|||(yae>>>("len",PySem.boot_len,((pv 0)>=>zab))))))⁻¹)),?_⟩
 try dsimp only[cxOf]
 refine⟨_,rfl,a,_,rfl,.inr ha,λl1 hl1=>?_⟩;have s1:=yaa hl1 (.lst (xs.map Vn));refine⟨szl 1,λl2 hl2=>?_⟩;have s2:=s1.trans (yaa hl2 (.lst [V.int 0]));refine⟨_,rfl,_,rfl,a,_,rfl,.inr (Same.tup s2 ha),_,_,rfl,rfl,?_⟩;have eN:(n:Int)-(((xs.map Vn).length:Nat):Int)=((n-xs.length:Nat):Int):=by rw[List.length_map];lia
 refine⟨l2,_,_,rfl,rfl,zaa,by rw[eN];lia,by rw[eN];lia,by rw[eN,Int.toNat_natCast];exact szl _ (by simp;lia),λl3 hl3=>?_⟩;rw[eN,Int.toNat_natCast,zcx];have s3:=yaa hl3 (.lst ((List.replicate (n-xs.length) 0).map Vn));refine⟨l1,l3,_,_,rfl,rfl,s3 _ _ ((yaa hl2 _) _ _ zaa),zaa,by simp only[List.length_map,List.length_replicate];exact szl _ (by lia),λr hr=>?_⟩;rw[<-List.map_append];have s4:=s2.trans s3;exact q r _ (s4.trans (yaa hr _)) (s4.free hr) zaa
end
end My
end
section
namespace My
open PySem L2 Dg
section
variable {P:Program} {w:World} {mg:Str->Option Value} {base:Heap} {f:Addr} {fd:FuncData}
theorem zds:yad ["_law_table_here","_law_one","_law_many"] ["_law_table_here","_law_one","_law_many"] (zac ybA):=⟨rfl,rfl,rfl,by decide +kernel,rfl,by decide +kernel,by decide +kernel⟩
end
end My
end
section
namespace My
open PySem L2 Dg
structure Ord(p m t x n:Nat):Prop where
 pos:1<=n
 one:pw p m t x n=1
 min:∀i,0<i->i<n->pw p m t x i≠1
theorem Ord.le{p m t x n k:Nat}(o:Ord p m t x n)(h0:0<k)(h:pw p m t x k=1):n<=k:=by
 rcases Nat.lt_or_ge k n with h1|h1
 ·exact absurd h (o.min k h0 h1)
 ·exact h1
theorem Ord.uniq{p m t x n k:Nat}(o:Ord p m t x n)(o':Ord p m t x k):n=k:=Nat.le_antisymm (o.le o'.pos o'.one) (o'.le o.pos o.one)
theorem ye0(x:Nat):decide (Vn x=V.int 1)=decide (x=1):=decide_eq_decide.mpr ⟨λe=>by injection e with e;lia,λe=>by rw[e];rfl⟩
section
variable {P:Program} {w:World} {mg:Str->Option Value} {base:Heap} {f:Addr} {fd:FuncData}
inductive zdM (K:PySem.W.Frag) (vs:List V) (H:Hp) (Q:VK) (E:XK):Prop
 |mk (fa:Addr) (p m t x:Nat) (c1:vs=[.ref fa,Vn x]) (c2:Fld K H fa p m t) (c3:Good p m t) (c4:0<x) (c5:x<p^m) (c6:∀n,Ord p m t x n->n<=p^m-1->Q (Vn n) H):zdM K vs H Q E
theorem za1:yad ["field","one","many","product"] ["field","one"] (zac yci):=⟨rfl,rfl,rfl,by decide +kernel,rfl,by decide +kernel,by decide +kernel⟩
theorem ygy(B:Bl mg)(h_times:Has P w K mg base 3 "times" ["field","one","other"] (zba K))(F:Fun K "round_of" "round_of" yci f fd):FnOk P w K mg base CX0 4 f fd ["field","one"] (zdM K):=by
 refine F.ok za1 (λvs H Q E h=>?_) (λcdv A outer s H vs Q E hr h=>?_)
 ·obtain⟨fa,p,m,t,x,rfl,_⟩:=h;rfl
 obtain⟨fa,p,m,t,x,rfl,hF,G,h0,hx,q⟩:=h;have hp:=G.hp;have hm:=G.hm;have hQ:=G.hq;have hQ2:=zap hp hm;refine⟨_,((2<|>za1.nd<|>yab)<=<(3<|>za1.nd<|>(pv 1))<=<(@yaC _ _ _ _ _ _ PassesOwn.never (zd2∪(pv 3)∪yab) ((3<|>za1.nd<|>(h_times<$>((pv 0)>=>(pv 3)>=>(pv 1)>=>zab)))<=<(~~~(@ybh _ _ 2 _ _ _ _ _ _ za1.nd rfl (Or.inl rfl) yab ycG (by trivial)))))<=<(~~~((pv 2)⁻¹))),?_⟩
 try dsimp only[cxOf]
 refine⟨_,rfl,?_⟩
 let I1:St->Hp->Prop:=λσ H'=>H'=H/\∃k,An4 (1<=k) (k<=p^m-1) (σ=[some (.ref fa),some (Vn x),some (Vn k),some (Vn (pw p m t x k))]) (∀i,0<i->i<k->pw p m t x i≠1)
 refine yaD I1 (λσ _=>p^m-mI σ 2) ⟨rfl,1,by lia,by lia,by rw[yb2 hp hm hx];rfl,λi h1 h2=>by lia⟩ ?_;rintro σ H' ⟨rfl,k,hk1,hk2,rfl,hne⟩;refine⟨_,rfl,rfl,_,rfl,?_⟩;rw[ye0];refine ite2 (λc=>?_) (λc=>?_)
 ·have hk:pw p m t x k≠1:=by
   intro e;rw[decide_eq_true e]at c;exact absurd c (by decide)
  have hk3:k<p^m-1:=by
   rcases Nat.lt_or_ge k (p^m-1) with h|h
   ·exact h
   ·have:k=p^m-1:=by lia
    rw[this]at hk;exact absurd (G.fermat h0 hx) hk
  refine⟨λσ' H''=>H''=H'/\σ'=[some (.ref fa),some (Vn x),some (Vn (k+1)),some (Vn (pw p m t x (k+1)))],?_,?_⟩
  ·rintro σ' H'' ⟨rfl,rfl⟩;refine⟨_,?_,rfl,rfl,k+1,by lia,by lia,rfl,λi h1 h2=>?_⟩
   ·show p^m-(k+1)<p^m-k;lia
   ·rcases Nat.lt_or_ge i k with h|h
    ·exact hne i h1 h
    ·rw[show i=k by lia];exact hk
  ·refine⟨_,rfl,_,rfl,_,rfl,fa,p,m,t,pw p m t x k,x,rfl,hF,hp,hm,hQ,G.top,yaw hp hm _ _,hx,λr br h1=>?_⟩;cases zb1 hp hm br h1;exact⟨_,rfl,_,_,rfl,rfl,rfl,rfl⟩
 ·have hk:pw p m t x k=1:=by
   rcases Nat.decEq (pw p m t x k) 1 with h|h
   ·exact absurd (by rw[decide_eq_false h];rfl) c
   ·exact h
  exact⟨_,rfl,q k ⟨hk1,hk,hne⟩ hk2⟩
inductive zbY (K:PySem.W.Frag) (vs:List V) (H:Hp) (Q:VK) (E:XK):Prop
 |mk (wa fa:Addr) (p m t few x:Nat) (mv:V) (c1:vs=[.ref wa]) (c2:SqT K H wa [.ref fa,Vn few,Vn x,mv]) (c3:Fld K H fa p m t) (c4:Good p m t) (c5:0<x) (c6:x<p^m) (c7:∀n,Ord p m t x n->n<=p^m-1->Q (Vn n) H):zbY K vs H Q E
theorem yfv:yad ["wheel"] ["wheel"] (zac ydB):=⟨rfl,rfl,rfl,by decide +kernel,rfl,by decide +kernel,by decide +kernel⟩
theorem zgf(B:Bl mg)(h_round_of:Has P w K mg base 4 "round_of" ["field","one"] (zdM K))(F:Fun K "length" "length" ydB f fd):FnOk P w K mg base CX0 5 f fd ["wheel"] (zbY K):=by
 refine F.ok yfv (λvs H Q E h=>?_) (λcdv A outer s H vs Q E hr h=>?_)
 ·obtain⟨wa,fa,p,m,t,few,x,mv,rfl,_⟩:=h;rfl
 obtain⟨wa,fa,p,m,t,few,x,mv,rfl,hw,hF,G,h0,hx,q⟩:=h;refine⟨_,(~~~((h_round_of<$>((zam<<<(pv 0)<<<yab)>=>(zam<<<(pv 0)<<<yab)>=>zab))⁻¹)),?_⟩
 try dsimp only[cxOf]
 refine⟨_,rfl,wa,_,_,_,rfl,rfl,hw,rfl,?_⟩;refine⟨_,rfl,wa,_,_,_,rfl,rfl,hw,rfl,?_⟩;exact⟨fa,p,m,t,x,rfl,hF,G,h0,hx,q⟩
inductive zbE (vs:List V) (H:Hp) (Q:VK) (E:XK):Prop
 |mk (tb fa pa la:Addr) (p m t b x:Nat) (c1:vs=[.ref tb,Vn x]) (c2:Tab H tb fa pa la p m t b) (c3:0<x) (c4:x<p^m) (c5:∀n,Ord p m t x n->n<=p^m-1->Q (Vn n) H):zbE vs H Q E
theorem ybo:yad ["_law_table_here","_law_one","_law_many","_law_thing"] ["_law_table_here","_law_one"] (zac zbw):=⟨rfl,rfl,rfl,by decide +kernel,rfl,by decide +kernel,by decide +kernel⟩
theorem zgm(B:Bl mg)(h__law_times:Has P w K mg base 1 "_law_times" ["_law_table_here","_law_one","_law_other"] ybk)(F:Fun K "_law_round" "_law_round" zbw f fd):FnOk P w K mg base CX0 2 f fd ["_law_table_here","_law_one"] zbE:=by
 refine F.ok ybo (λvs H Q E h=>?_) (λcdv A outer s H vs Q E hr h=>?_)
 ·obtain⟨tb,fa,pa,la,p,m,t,b,x,rfl,_⟩:=h;rfl
 obtain⟨tb,fa,pa,la,p,m,t,b,x,rfl,T,h0,hx,q⟩:=h;have G:=T.good;have hp:=G.hp;have hm:=G.hm;have hQ:=G.hq;have hQ2:=zap hp hm;refine⟨_,((@ycy _ _ 2 3 _ _ _ _ _ _ _ _ _ _ _ rfl ybo.nd rfl rfl (by decide) rfl rfl (yab>=>(pv 1)>=>zab) rfl ⋯)<=<(@yaC _ _ _ _ _ _ PassesOwn.never (zd2∪(pv 3)∪yab) (~~~(@ycy _ _ 2 3 _ _ _ _ _ _ _ _ _ _ _ rfl ybo.nd rfl rfl (by decide) rfl rfl ((yag|||(pv 2)|||yab)>=>(h__law_times<$>((pv 0)>=>(pv 3)>=>(pv 1)>=>zab))>=>zab) rfl ⋯)))<=<(~~~((pv 2)⁻¹))),?_⟩
 try dsimp only[cxOf]
 refine⟨_,rfl,_,_,rfl,?_⟩
 let I2:St->Hp->Prop:=λσ H'=>H'=H/\∃k,An4 (1<=k) (k<=p^m-1) (σ=[some (.ref tb),some (Vn x),some (Vn k),some (Vn (pw p m t x k))]) (∀i,0<i->i<k->pw p m t x i≠1)
 refine yaD I2 (λσ _=>p^m-mI σ 2) ⟨rfl,1,by lia,by lia,by rw[yb2 hp hm hx];rfl,λi h1 h2=>by lia⟩ ?_;rintro σ H' ⟨rfl,k,hk1,hk2,rfl,hne⟩;refine⟨_,rfl,rfl,_,rfl,?_⟩;rw[ye0];refine ite2 (λc=>?_) (λc=>?_)
 ·have hk:pw p m t x k≠1:=by
   intro e;rw[decide_eq_true e]at c;exact absurd c (by decide)
  have hk3:k<p^m-1:=by
   rcases Nat.lt_or_ge k (p^m-1) with h|h
   ·exact h
   ·have:k=p^m-1:=by lia
    rw[this]at hk;exact absurd (G.fermat h0 hx) hk
  refine⟨λσ' H''=>H''=H'/\σ'=[some (.ref tb),some (Vn x),some (Vn (k+1)),some (Vn (pw p m t x (k+1)))],?_,?_⟩
  ·rintro σ' H'' ⟨rfl,rfl⟩;refine⟨_,?_,rfl,rfl,k+1,by lia,by lia,rfl,λi h1 h2=>?_⟩
   ·show p^m-(k+1)<p^m-k;lia
   ·rcases Nat.lt_or_ge i k with h|h
    ·exact hne i h1 h
    ·rw[show i=k by lia];exact hk
  ·refine⟨_,rfl,_,_,rfl,rfl,_,rfl,_,rfl,_,rfl,tb,fa,pa,la,p,m,t,b,pw p m t x k,x,rfl,T,yaw hp hm _ _,hx,?_⟩;exact⟨_,_,rfl,rfl,rfl⟩
 ·have hk:pw p m t x k=1:=by
   rcases Nat.decEq (pw p m t x k) 1 with h|h
   ·exact absurd (by rw[decide_eq_false h];rfl) c
   ·exact h
  exact⟨_,rfl,q k ⟨hk1,hk,hne⟩ hk2⟩
theorem ygX(h:xs[xs.length-1]?=some v):atI xs (-1)=some v:=by
 have hl:0<xs.length:=by
  have:=(List.getElem?_eq_some_iff.mp h).1;lia
 unfold atI ixN;rw[if_neg (by decide),if_pos (by lia)];show(some _).bind _=_;rw[Option.bind_some,<-h];congr 1
 lia
end
end My
end
section
namespace My
open PySem L2 Dg
local macro_rules | `(tactic| walk_at "rd") => `(tactic| repeat (first | refine ⟨_, rfl, ?_⟩ | refine ⟨_, _, rfl, rfl, ?_⟩))
def yat(p m t c:Nat)(xs:List Nat):List Nat:=(List.range xs.length).map λi=>mul p m t c (xs.getD i 0)
def pwz(p m t x:Nat)(z:Int):Nat:=if x=0 then(if z=0 then 1 else 0) else pw p m t x (z%(((p^m:Nat):Int)-1)).toNat
section
variable {p m t:Nat} (G:Good p m t)
include G
theorem zbZ(c:Nat)(xs:List Nat):∀x∈yat p m t c xs,x<p^m:=λx hx=>by
 obtain⟨i,_,rfl⟩:=List.mem_map.mp hx;exact yap G.hp G.hm _ _
theorem zhT{x k:Nat}(hx:x<p^m):pw p m t x k=mul p m t (if k%2=1 then x else 1) (pw p m t (mul p m t x x) (k/2)):=by
 have e2:pw p m t x 2=mul p m t x x:=by show mul p m t (mul p m t 1 x) x=_;rw[one_mul G.hp G.hm hx]
 by_cases c:k%2=1
 ·rw[if_pos c,<-e2,<-yaF G.hp G.hm];rw[show pw p m t x k=pw p m t x (1+2*(k/2)) by congr 1;lia,ya1 G.hp G.hm,yb2 G.hp G.hm hx]
 ·rw[if_neg c,<-e2,<-yaF G.hp G.hm,one_mul G.hp G.hm (yaw G.hp G.hm _ _)];congr 1;lia
theorem zcT{x:Nat}(hx:x<p^m)(n:Nat):pwz p m t x (n:Int)=pw p m t x n:=by
 unfold pwz;have hQ:=zap G.hp G.hm;by_cases c:x=0
 ·rw[if_pos c,c];cases n with
  |zero=>rfl
  |succ n=>rw[yby G.hp G.hm,if_neg (by lia)]
 ·rw[if_neg c,show((n:Int)%(((p^m:Nat):Int)-1)).toNat=n%(p^m-1) from ?_,G.pw_mod (by lia) hx];rw[show((p^m:Nat):Int)-1=((p^m-1:Nat):Int) by lia,<-Int.natCast_emod];rfl
end
section
variable {P:Program} {w:World} {mg:Str->Option Value} {base:Heap} {f:Addr} {fd:FuncData}
inductive ycE (K:PySem.W.Frag) (vs:List V) (H:Hp) (Q:VK) (E:XK):Prop
 |mk (a:Addr) (p m t:Nat) (c1:vs=[.ref a]) (c2:Fld K H a p m t) (c3:p<=64) (c4:m<=1000) (c5:Q (Vn (p^m)) H):ycE K vs H Q E
theorem yc6:yad ["field"] ["field"] (zac ybl):=⟨rfl,rfl,rfl,by decide +kernel,rfl,by decide +kernel,by decide +kernel⟩
theorem yhT(B:Bl mg)(h_number_power:Has P w K mg base 1 "number_power" ["base","many"] zah)(F:Fun K "many_things" "many_things" ybl f fd):FnOk P w K mg base CX0 2 f fd ["field"] (ycE K):=by
 refine F.ok yc6 (λvs H Q E h=>?_) (λcdv A outer s H vs Q E hr h=>?_)
 ·obtain⟨a,p,m,t,rfl,_⟩:=h;rfl
 obtain⟨a,p,m,t,rfl,hF,hp,hm,q⟩:=h;refine⟨_,(~~~((h_number_power<$>((zam<<<(pv 0)<<<yab)>=>(zam<<<(pv 0)<<<yab)>=>zab))⁻¹)),?_⟩
 try dsimp only[cxOf]
 refine⟨_,rfl,a,_,_,_,rfl,rfl,hF,rfl,_,rfl,a,_,_,_,rfl,rfl,hF,rfl,p,m,rfl,hp,hm,q⟩
inductive zcc (K:PySem.W.Frag) (vs:List V) (H:Hp) (Q:VK) (E:XK):Prop
 |mk (a:Addr) (p m t x n:Nat) (c1:vs=[.ref a,Vn x,Vn n]) (c2:Fld K H a p m t) (c3:Good p m t) (c4:x<p^m) (c5:Q (Vn (pw p m t x n)) H):zcc K vs H Q E
theorem zaB:yad ["field","one","many","product"] ["field","one","many"] (zac ybf):=⟨rfl,rfl,rfl,by decide +kernel,rfl,by decide +kernel,by decide +kernel⟩
theorem yfA(B:Bl mg)(h_times:Has P w K mg base 3 "times" ["field","one","other"] (zba K))(F:Fun K "times_itself" "times_itself" ybf f fd):FnOk P w K mg base CX0 4 f fd ["field","one","many"] (zcc K):=by
 refine F.ok zaB (λvs H Q E h=>?_) (λcdv A outer s H vs Q E hr h=>?_)
 ·obtain⟨a,p,m,t,x,n,rfl,_⟩:=h;rfl
 obtain⟨a,p,m,t,x,n,rfl,hF,G,hx,q⟩:=h;have hp:=G.hp;have hm:=G.hm;refine⟨_,((3<|>zaB.nd<|>yab)<=<(@yaC _ _ _ _ _ _ PassesOwn.never (yco∪(pv 2)∪yab) (((zbN∪(zax|||(pv 2)|||yab)∪yab)*>((~~~(3<|>zaB.nd<|>(h_times<$>((pv 0)>=>(pv 3)>=>(pv 1)>=>zab)))),yao))<=<(@ybh _ _ 2 _ _ _ _ _ _ zaB.nd rfl (Or.inl rfl) yab zcA (by trivial))<=<(~~~((yco∪(pv 2)∪yab)*>((~~~(1<|>zaB.nd<|>(h_times<$>((pv 0)>=>(pv 1)>=>(pv 1)>=>zab)))),yao)))))<=<(~~~((pv 3)⁻¹))),?_⟩
 try dsimp only[cxOf]
 let I1:St->Hp->Prop:=λσ H'=>H'=H/\Ex3 λ(o k pr:Nat)=>An4 (σ=[some (.ref a),some (Vn o),some (Vn k),some (Vn pr)]) (o<p^m) (pr<p^m) (mul p m t pr (pw p m t o k)=pw p m t x n)
 refine yaD I1
  (λσ _=>mI σ 2) ⟨rfl,x,n,1,rfl,hx,zap hp hm,one_mul hp hm (yaw hp hm _ _)⟩ ?_
 rintro σ H' ⟨rfl,o,k,pr,rfl,ho,hpr,he⟩
 walk_at "rd"
 refine ite2 (λc=>?_) (λc=>?_)
 ·have c':0<k:=by have:=of_decide_eq_true c;lia
  refine⟨λσ' H''=>H''=H'/\Ex2 λ(o' pr':Nat)=>σ'=[some (.ref a),some (Vn o'),some (Vn (k/2)),some (Vn pr')]/\o'<p^m/\pr'<p^m/\mul p m t pr' (pw p m t o' (k/2))=pw p m t x n,?_,?_⟩
  ·rintro σ' H'' ⟨rfl,o',pr',rfl,b1,b2,b3⟩;exact⟨_,by show k/2<k;exact Nat.div_lt_self c' (by lia),rfl,rfl,o',k/2,pr',rfl,b1,b2,b3⟩
  let I2:St->Hp->Prop:=λσ' H''=>H''=H'/\∃pr':Nat,An3 (σ'=[some (.ref a),some (Vn o),some (Vn k),some (Vn pr')]) (pr'<p^m) (mul p m t pr' (pw p m t (mul p m t o o) (k/2))=pw p m t x n)
  refine ybt I2 ?_ ?_
  ·rintro σ' H'' ⟨rfl,pr',rfl,hpr',he'⟩
   walk_at "rd"
   refine⟨⟨by show(0:Int)<2;decide,by show(2:Int)<2^64;decide⟩,?_⟩
   walk_at "rd"
   refine ite2 (λc2=>?_) (λc2=>?_)
   ·refine⟨_,rfl,_,rfl,_,rfl,a,p,m,t,o,o,rfl,hF,hp,hm,G.hq,G.top,ho,ho,λr br hr=>?_⟩;cases zb1 hp hm br hr;exact⟨rfl,_,pr',rfl,yap hp hm _ _,hpr',he'⟩
   ·have k0:k/2=0:=by
     have:=of_decide_eq_false (Bool.eq_false_iff.mpr c2);have e:((k/2:Nat):Int)=(k:Int)/2:=rfl
     lia
    rw[k0]at he';refine⟨rfl,o,pr',rfl,ho,hpr',?_⟩;rw[k0];exact he'
  ·intro D' _ _ _ hD';refine⟨_,rfl,_,_,rfl,rfl,by show(0:Int)<2;decide,rfl,_,rfl,?_⟩;have ed:decide (V.int ((k:Int)%2)=V.int 1)=decide (k%2=1):=decide_eq_decide.mpr ⟨λe=>by injection e with e;lia,λe=>by congr 1;lia⟩;rw[ed];rw[zhT G ho,<-mul_assoc hp hm]at he;refine ite2 (λc2=>?_) (λc2=>?_)
   ·have c3:k%2=1:=of_decide_eq_true c2;rw[if_pos c3]at he;refine⟨_,rfl,_,rfl,_,rfl,a,p,m,t,pr,o,rfl,hF,hp,hm,G.hq,G.top,hpr,ho,λr br hr=>?_⟩;cases zb1 hp hm br hr;exact hD' _ _ ⟨rfl,_,rfl,yap hp hm _ _,he⟩
   ·have c3:¬ k%2=1:=λh=>c2 (decide_eq_true h)
    rw[if_neg c3,mul_one hp hm hpr]at he;exact hD' _ _ ⟨rfl,_,rfl,hpr,he⟩
 ·have c':k=0:=by have:=of_decide_eq_false (Bool.eq_false_iff.mpr c);lia
  subst c';refine⟨_,rfl,?_⟩;have e:pr=pw p m t x n:=by rw[<-he];exact(mul_one hp hm hpr).symm
  rw[e];exact q
inductive zeI (K:PySem.W.Frag) (vs:List V) (H:Hp) (Q:VK) (E:XK):Prop
 |mk (a:Addr) (p m t x y:Nat) (c1:vs=[.ref a,Vn x,Vn y]) (c2:Fld K H a p m t) (c3:Good p m t) (c4:x<p^m) (c5:0<y) (c6:y<p^m) (c7:Q (Vn (mul p m t x (pw p m t y (p^m-2)))) H):zeI K vs H Q E
theorem yho:yad ["field","one","other"] ["field","one","other"] (zac ygj):=⟨rfl,rfl,rfl,by decide +kernel,rfl,by decide +kernel,by decide +kernel⟩
theorem zhg(B:Bl mg)(h_times:Has P w K mg base 3 "times" ["field","one","other"] (zba K))(h_times_itself:Has P w K mg base 4 "times_itself" ["field","one","many"] (zcc K))(h_many_things:Has P w K mg base 2 "many_things" ["field"] (ycE K))(F:Fun K "over" "over" ygj f fd):FnOk P w K mg base CX0 5 f fd ["field","one","other"] (zeI K):=by
 refine F.ok yho (λvs H Q E h=>?_) (λcdv A outer s H vs Q E hr h=>?_)
 ·obtain⟨a,p,m,t,x,y,rfl,_⟩:=h;rfl
 obtain⟨a,p,m,t,x,y,rfl,hF,G,hx,h0,hy,q⟩:=h;have hp:=G.hp;have hm:=G.hm;have hQ:=zap hp hm;refine⟨_,(((zbN∪(pv 2)∪yab)*>((~~~yct),yao))<=<(~~~((h_times<$>((pv 0)>=>(pv 1)>=>(h_times_itself<$>((pv 0)>=>(pv 2)>=>(yan|||(h_many_things<$>((pv 0)>=>zab))|||yab)>=>zab))>=>zab))⁻¹))),?_⟩
 try dsimp only[cxOf]
 refine⟨_,rfl,rfl,_,rfl,?_⟩;rw[ybq];refine ite2 (λc=>absurd (of_decide_eq_true c) (by lia)) (λ_=>?_);refine⟨_,rfl,_,rfl,_,rfl,_,rfl,_,rfl,a,p,m,t,rfl,hF,p_le hp hm G.hq,by have:=m_le hp G.hq;lia,?_⟩;refine⟨_,_,rfl,rfl,a,p,m,t,y,p^m-2,?_,hF,G,hy,?_⟩
 ·show [V.ref a,Vn y,V.int (((p^m:Nat):Int)-2)]=[V.ref a,Vn y,V.int ((p^m-2:Nat):Int)]
  rw[show((p^m:Nat):Int)-2=((p^m-2:Nat):Int) by lia]
 refine⟨a,p,m,t,x,_,rfl,hF,hp,hm,G.hq,G.top,hx,yaw hp hm _ _,λr br hr=>?_⟩;cases zb1 hp hm br hr;exact q
inductive zbn (K:PySem.W.Frag) (vs:List V) (H:Hp) (Q:VK) (E:XK):Prop
 |mk (fa a:Addr) (p m t c:Nat) (xs:List Nat) (c1:vs=[.ref fa,Vn c,.ref a]) (c2:Fld K H fa p m t) (c3:Good p m t) (c4:c<p^m) (c5:SqT K H a (xs.map Vn)) (c6:xs.length<=100) (c7:(∀x∈xs,x<p^m)) (c8:∀r H',Same H H'->H r=none->H' r=some (.tup ((yat p m t c xs).map Vn))->Q (.ref r) H'):zbn K vs H Q E
theorem ydj:yad ["field","one","word"] ["field","one","word"] (zac ya6):=⟨rfl,rfl,rfl,by decide +kernel,rfl,by decide +kernel,by decide +kernel⟩
theorem zdL(B:Bl mg)(h_times:Has P w K mg base 3 "times" ["field","one","other"] (zba K))(F:Fun K "word_times" "word_times" ya6 f fd):FnOk P w K mg base CX0 4 f fd ["field","one","word"] (zbn K):=by
 refine F.ok ydj (λvs H Q E h=>?_) (λcdv A outer s H vs Q E hr h=>?_)
 ·obtain⟨fa,a,p,m,t,c,xs,rfl,_⟩:=h;rfl
 obtain⟨fa,a,p,m,t,c,xs,rfl,hF,G,hc,ha,hl,hx,q⟩:=h;refine⟨_,(~~~((yak<*("tuple",yai,((["thing"]⊆(["field","one"],[0,1],["field","one","word"],ya6,(@yb0 _ _ _ _ (pv 2)),(0⊇["thing","field","one"]),zau,(h_times<$>((pv 1)>=>(pv 2)>=>(pv 0)>=>zab))))>=>zab)))⁻¹)),?_⟩
 try dsimp only[cxOf]
 refine⟨_,rfl,a,rfl,⟨_,ha⟩,?_⟩;refine zan (zaW (xs:=xs.map Vn)) (λk acc H'=>Same H H'/\acc=((List.range k).map λi=>mul p m t c (xs.getD i 0)).map Vn) ⟨Same.refl _,rfl⟩ (λi acc H' _ h=>Same.tup h.1 ha) ?_ ?_ ?_
 ·rintro k acc H' hk ⟨_,rfl⟩;rw[List.length_map]at hk;rw[List.length_map,List.length_map,List.length_range];exact zai (by lia)
 ·rintro k acc z H1 H2 hk ⟨s1,rfl⟩ ⟨rfl,ez⟩;rw[List.length_map]at hk;rw[zar (by lia)]at ez;cases ez;refine⟨_,rfl,_,rfl,_,rfl,fa,p,m,t,c,xs.getD k 0,rfl,Same.tup s1 hF,G.hp,G.hm,G.hq,G.top,hc,zaG hx (by lia),λr br h1=>?_⟩;cases zb1 G.hp G.hm br h1;refine⟨s1,?_⟩;rw[List.range_succ,List.map_append,List.map_append];rfl
 ·rw[List.length_map];rintro acc H1 ⟨s1,rfl⟩ D hD;refine⟨D,_,rfl,.inl ⟨SqL.of zaa,λr hr=>?_⟩⟩;have s2:=s1.trans (yaa hD (.lst ((yat p m t c xs).map Vn)));exact q r _ (s2.trans (yaa hr _)) (s2.free hr) zaa
inductive zcq (vs:List V) (H:Hp) (Q:VK) (E:XK):Prop
 |mk (tb fa pa la:Addr) (p m t b x:Nat) (z:Int) (c1:vs=[.ref tb,Vn x,.int z]) (c2:Tab H tb fa pa la p m t b) (c3:x<p^m) (c4:Q (Vn (pwz p m t x z)) H):zcq vs H Q E
theorem zg0(B:Bl mg)(F:Fun K "_law_power" "_law_power" ybA f fd):FnOk P w K mg base CX0 1 f fd ["_law_table_here","_law_one","_law_many"] zcq:=by
 refine F.ok zds (λvs H Q E h=>?_) (λcdv A outer s H vs Q E hr h=>?_)
 ·obtain⟨tb,fa,pa,la,p,m,t,b,x,n,rfl,_⟩:=h;rfl
 obtain⟨tb,fa,pa,la,p,m,t,b,x,z,rfl,T,hx,q⟩:=h;have hp:=T.good.hp;have hm:=T.good.hm;have hQ2:=zap hp hm;have hQ:=T.good.hq;unfold pwz at q;refine⟨_,(((zbN∪(pv 1)∪yab)*>((~~~((yfF<*("int",zcJ,((@zcC _ _ _ _ _ _ _ _ zbN (pv 2) yab (ydi _))>=>zab)))⁻¹)),yao))<=<(~~~((yah<<<((pv 0)⊃zaF)<<<(zax|||(zav|||(((pv 0)⊃zaF)⊃(pv 1))|||(pv 2))|||(yan|||((pv 0)⊃zaF)|||yab)))⁻¹))),?_⟩
 try dsimp only[cxOf]
 refine⟨_,rfl,rfl,_,rfl,?_⟩;rw[ybq];refine ite2 (λc=>?_) (λc=>?_)
 ·have x0:x=0:=of_decide_eq_true c;rw[if_pos x0]at q;refine⟨_,rfl,rfl,.inr ⟨_,rfl,?_⟩⟩;by_cases cz:z=0
  ·rw[if_pos cz]at q;rw[if_pos (decide_eq_true (by rw[cz]))];exact q
  ·rw[if_neg cz]at q;rw[if_neg (λh=>cz (by have:=of_decide_eq_true h;injection this))];exact q
 ·have x0:0<x:=by
   have:¬ x=0:=λh=>c (decide_eq_true h)
   lia
  rw[if_neg (by lia)]at q;obtain⟨i,hi,ei⟩:=T.prim.all x x0 hx;have gi:=T.log hi;rw[ei]at gi;refine⟨_,rfl,tb,_,rfl,T.get zde,?_⟩;refine⟨_,rfl,tb,_,rfl,T.get zdr,_,rfl,la,_,rfl,gi,_,rfl,_,_,rfl,rfl,.inl ⟨by lia,by lia⟩,?_⟩;refine⟨_,rfl,tb,_,rfl,T.get ybK,_,_,rfl,rfl,_,_,rfl,rfl,by show(0:Int)<((p^m:Nat):Int)-1;lia,?_⟩;have hz0:=Int.emod_nonneg z (show((p^m:Nat):Int)-1≠0 by lia);have hz1:=Int.emod_lt_of_pos z (show(0:Int)<((p^m:Nat):Int)-1 by lia);obtain⟨n,en⟩:=Int.eq_ofNat_of_zero_le hz0;rw[en]at q hz1;have ek:((i:Int)*z)%(((p^m:Nat):Int)-1)=(((i*n)%(p^m-1):Nat):Int):=by
   rw[Int.mul_emod,en,Int.natCast_emod,Int.natCast_mul,Int.natCast_sub (by lia)];rw[Int.mul_emod];simp;exact(Int.mul_emod _ _ _).symm
  have hk:(i*n)%(p^m-1)<p^m-1:=Nat.mod_lt _ (by lia);refine⟨pa,_,_,Vn (pw p m t b ((i*n)%(p^m-1))),rfl,rfl,SqL.of T.w,?_,?_⟩
  ·show atI _ (((i:Int)*z)%(((p^m:Nat):Int)-1))=_;rw[ek];exact zaz (by unfold Pws;rw[List.getElem?_map,List.getElem?_map,List.getElem?_range hk];rfl)
  ·have e:pw p m t b ((i*n)%(p^m-1))=pw p m t x n:=by
    rw[T.good.pw_mod T.prim.pos T.prim.lt,yaF hp hm,ei]
   rw[e];exact q
inductive zcR (vs:List V) (H:Hp) (Q:VK) (E:XK):Prop
 |mk (tb fa pa la:Addr) (p m t b x y:Nat) (c1:vs=[.ref tb,Vn x,Vn y]) (c2:Tab H tb fa pa la p m t b) (c3:x<p^m) (c4:y<p^m) (c5:Q (Vn (sub p m x y)) H):zcR vs H Q E
theorem zdm:yad ["_law_table_here","_law_one","_law_other"] ["_law_table_here","_law_one","_law_other"] (zac ybu):=⟨rfl,rfl,rfl,by decide +kernel,rfl,by decide +kernel,by decide +kernel⟩
theorem zgb(B:Bl mg)(h__law_plus:Has P w K mg base 1 "_law_plus" ["_law_table_here","_law_one","_law_other"] zct)(h__law_times:Has P w K mg base 1 "_law_times" ["_law_table_here","_law_one","_law_other"] ybk)(F:Fun K "_law_minus" "_law_minus" ybu f fd):FnOk P w K mg base CX0 2 f fd ["_law_table_here","_law_one","_law_other"] zcR:=by
 refine F.ok zdm (λvs H Q E h=>?_) (λcdv A outer s H vs Q E hr h=>?_)
 ·obtain⟨tb,fa,pa,la,p,m,t,b,x,y,rfl,_⟩:=h;rfl
 obtain⟨tb,fa,pa,la,p,m,t,b,x,y,rfl,T,hx,hy,q⟩:=h;have hp:=T.good.hp;have hm:=T.good.hm;have hpp:p<=p^m:=by simpa using Nat.pow_le_pow_right (show 0<p by lia) hm
 refine⟨_,(~~~((h__law_plus<$>((pv 0)>=>(pv 1)>=>(h__law_times<$>((pv 0)>=>(yan|||((pv 0)⊃zaF)|||yab)>=>(pv 2)>=>zab))>=>zab))⁻¹)),?_⟩
 try dsimp only[cxOf]
 refine⟨_,rfl,_,rfl,_,rfl,_,rfl,tb,_,rfl,T.get zhM,_,_,rfl,rfl,_,rfl,?_⟩;refine⟨tb,fa,pa,la,p,m,t,b,p-1,y,by show [_,V.int ((p:Int)-1),_]=_;rw[show(p:Int)-1=((p-1:Nat):Int) by lia],T,by lia,hy,?_⟩;refine⟨tb,fa,pa,la,p,m,t,b,x,mul p m t (p-1) y,rfl,T,hx,yap hp hm _ _,?_⟩;rw[ydU hp hm hx hy];exact q
end
end My
end
section
namespace My
open PySem L2 Dg
local macro_rules | `(tactic| walk_at "rd") => `(tactic| repeat (first | refine ⟨_, rfl, ?_⟩ | refine ⟨_, _, rfl, rfl, ?_⟩))
end My
end
section
namespace My
open PySem L2 Dg
local macro_rules | `(tactic| walk_at "rd") => `(tactic| repeat (first | refine ⟨_, rfl, ?_⟩ | refine ⟨_, _, rfl, rfl, ?_⟩))
section
variable {p m t:Nat} (G:Good p m t)
include G
theorem Ord.dvd{x n k:Nat}(hx:x<p^m)(o:Ord p m t x n)(h:pw p m t x k=1):k%n=0:=by
 have hp:=G.hp;have hm:=G.hm;rcases Nat.eq_zero_or_pos (k%n) with c|c
 ·exact c
 ·have e:pw p m t x (n*(k/n)+k%n)=1:=by rw[Nat.div_add_mod];exact h
  rw[ya1 hp hm,yaF hp hm,o.one,ybO hp hm,one_mul hp hm (yaw hp hm _ _)]at e;exact absurd e (o.min _ c (Nat.mod_lt _ (by have:=o.pos;lia)))
theorem Ord.round{x n few:Nat}(h0:0<x)(hx:x<p^m)(o:Ord p m t x n)(hf:m%few=0)(hf1:1<=few):(p^few)^(m/few)%n=1%n:=by
 have hp:=G.hp;have hm:=G.hm;have h1:=Ord.dvd G hx o (G.fermat h0 hx);have hQ:=zap hp hm;have e:few*(m/few)=m:=by have:=Nat.div_add_mod m few;rw[hf]at this;lia
 rw[<-Nat.pow_mul,e];obtain⟨c,hc⟩:=Nat.dvd_of_mod_eq_zero h1;rw[show p^m=1+n*c by lia,Nat.add_mul_mod_self_left]
end
section
variable {P:Program} {w:World} {mg:Str->Option Value} {base:Heap} {f:Addr} {fd:FuncData}
structure Whl(p m t few root n:Nat)(marks:List Nat):Prop where
 few1:1<=few
 fewm:m%few=0
 r0:0<root
 rq:root<p^m
 ord:Ord p m t root n
 nq:n<=p^m-1
 asc:marks.Pairwise (· < ·)
 lt:∀x∈marks,x<n
 closed:∀x∈marks,x*p^few%n∈marks
structure WhAt(H:Hp)(wh fa mk:Addr)(few root:Nat)(marks:List Nat):Prop where
 w:H wh=some (.tup [.ref fa,Vn few,Vn root,.ref mk])
 k:H mk=some (.tup (marks.map Vn))
theorem WhAt.same{H H':Hp}{wh fa mk:Addr}{few root:Nat}{marks:List Nat}(h:WhAt H wh fa mk few root marks)(s:Same H H'):WhAt H' wh fa mk few root marks:=⟨s _ _ h.w,s _ _ h.k⟩
theorem zc0{α:Type}{xs:List α}{k:Nat}{a:α}(h:xs[k]?=some a):xs.take (k+1)=xs.take k++[a]:=by
 obtain⟨hk,e⟩:=List.getElem?_eq_some_iff.mp h;rw[List.take_succ_eq_append_getElem hk,e]
theorem zhS{ts:List Addr}{k:Nat}{z:V}(h:(ts.map V.ref)[k]?=some z):∃a,ts[k]?=some a/\z = .ref a:=by
 rw[List.getElem?_map]at h;rcases e:ts[k]? with _|a
 ·rw[e]at h;cases h
 ·rw[e]at h;exact⟨a,rfl,(Option.some.inj h).symm⟩
end
end My
end
section
namespace L2
open PySem PyProof.Rows
end L2
namespace My
open PySem L2 Dg
local macro_rules | `(tactic| walk_at "rd") => `(tactic| repeat (first | refine ⟨_, rfl, ?_⟩ | refine ⟨_, _, rfl, rfl, ?_⟩))
end My
end
section
namespace My
open PySem L2 Dg
local macro_rules | `(tactic| walk_at "rd") => `(tactic| repeat (first | refine ⟨_, rfl, ?_⟩ | refine ⟨_, _, rfl, rfl, ?_⟩))
theorem ydt{K:PySem.W.Frag}{n:Nat}(h:SqT K H a [.int 0])(hn:n<=1000)(q:∀p H',Same H H'->SqT K H' p ((List.replicate n 0).map Vn)->Q (.ref p) H'):zhD K (.ref a) (Vn n) H Q:=by
 refine⟨a,n,[.int 0],rfl,rfl,h,by simp,by lia,by lia,?_,λe=>?_,λe p hp=>?_⟩
 ·rw[show((n:Int)).toNat=n from rfl];exact szl _ (by simp;lia)
 ·have e:n=1:=by lia
  subst e;exact q a H (Same.refl _) h
 ·refine q p _ (yaa hp _) (SqT.of ?_);rw[zaa];congr 2;rw[show((n:Int)).toNat=n from rfl,zcx]
theorem ydp{K:PySem.W.Frag}(ha:SqT K H a xs)(hb:SqT K H b ys)(hz:xs.length+ys.length<=1000)(q:∀p H',Same H H'->SqT K H' p (xs++ys)->Q (.ref p) H'):zh7 K (.ref a) (.ref b) H Q:=by
 refine⟨a,b,xs,ys,rfl,rfl,ha,hb,szl _ (by lia),λe=>?_,λe1 e2=>?_,λe1 e2 p hp=>?_⟩
 ·subst e;exact q b H (Same.refl _) hb
 ·subst e2;exact q a H (Same.refl _) (by rw[List.append_nil];exact ha)
 ·exact q p _ (yaa hp _) (SqT.of zaa)
end My
end
section
namespace My
open PySem L2 Dg
local macro_rules | `(tactic| walk_at "rd") => `(tactic| repeat (first | refine ⟨_, rfl, ?_⟩ | refine ⟨_, _, rfl, rfl, ?_⟩))
theorem zfL{marks:List Nat}{n:Nat}(h:marks.Pairwise (· < ·))(hl:∀x∈marks,x<n):marks.length<=n:=by
 have:=yeb (σ:=marks) (τ:=List.range n) (h.imp λh=>by lia) λx hx=>List.mem_range.mpr (hl x hx)
 rwa [List.length_range]at this
end My
end
section
namespace My
open PySem L2 Dg
local macro_rules | `(tactic| walk_at "rd") => `(tactic| repeat (first | refine ⟨_, rfl, ?_⟩ | refine ⟨_, _, rfl, rfl, ?_⟩))
def lets(p m t few:Nat):List Nat:=(List.range (p^m)).filter λx=>decide (pw p m t x (p^few)=x)
theorem zaM{p m t few:Nat}:∀x∈lets p m t few,x<p^m:=λx hx=>List.mem_range.mp (List.mem_filter.mp hx).1
section
variable {P:Program} {w:World} {mg:Str->Option Value} {base:Heap} {f:Addr} {fd:FuncData}
inductive ybT (vs:List V) (H:Hp) (Q:VK) (E:XK):Prop
 |mk (tb fa pa la:Addr) (p m t b few:Nat) (c1:vs=[.ref tb,Vn few]) (c2:Tab H tb fa pa la p m t b) (c3:few<=6) (c4:∀r H',Same H H'->H r=none->H' r=some (.lst ((lets p m t few).map Vn))->Q (.ref r) H'):ybT vs H Q E
noncomputable def mkS(p m t r:Nat)(row:List Nat):List Nat:=(List.range (row.length+1)).map λi=>sub p m ((0::row).getD i 0) (mul p m t r ((row++[0]).getD i 0))
def mkL(p m t root:Nat)(marks:List Nat):List Nat:=marks.foldl (λrow k=>mkS p m t (pw p m t root k) row) [1]
theorem zcX(p m t r:Nat)(row:List Nat):(mkS p m t r row).length=row.length+1:=by simp[mkS]
theorem zgc(p m t root:Nat):∀(marks row:List Nat),(marks.foldl (λrow k=>mkS p m t (pw p m t root k) row) row).length=row.length+marks.length
 | [],row=>rfl
 |k::marks,row=>by rw[List.foldl_cons,zgc p m t root marks,zcX,List.length_cons];lia
theorem zaN(p m t root:Nat)(marks:List Nat):(mkL p m t root marks).length=marks.length+1:=by unfold mkL;rw[zgc];simp;lia
theorem ye5{p m t r:Nat}(G:Good p m t){row:List Nat}:∀x∈mkS p m t r row,x<p^m:=λx hx=>by
 obtain⟨i,_,rfl⟩:=List.mem_map.mp hx;exact zby G.hp G.hm _ _
theorem zg8{p m t root:Nat}(G:Good p m t):∀(marks row:List Nat),(∀x∈row,x<p^m)->∀x∈marks.foldl (λrow k=>mkS p m t (pw p m t root k) row) row,x<p^m
 | [],row,h=>h
 |k::marks,row,h=>by rw[List.foldl_cons];exact zg8 G marks _ (ye5 G)
theorem ybs{p m t root:Nat}(G:Good p m t)(marks:List Nat):∀x∈mkL p m t root marks,x<p^m:=zg8 G marks [1] λx hx=>by rw[List.mem_singleton.mp hx];exact zap G.hp G.hm
theorem yeL{p m t root:Nat}{marks:List Nat}{i k:Nat}(h:marks[i]?=some k):mkL p m t root (marks.take (i+1))=mkS p m t (pw p m t root k) (mkL p m t root (marks.take i)):=by
 unfold mkL;rw[zc0 h,List.foldl_append];rfl
inductive ycY (vs:List V) (H:Hp) (Q:VK) (E:XK):Prop
 |mk (tb fa pa la wh mk:Addr) (p m t b few root:Nat) (marks:List Nat) (c1:vs=[.ref tb,.ref wh]) (c2:Tab H tb fa pa la p m t b) (c3:WhAt H wh fa mk few root marks) (c4:root<p^m) (c5:marks.length<=64) (c6:∀r H',Same H H'->H r=none->H' r=some (.lst ((mkL p m t root marks).map Vn))->Q (.ref r) H'):ycY vs H Q E
end
end My
end
section
namespace My
open PySem L2 Dg
local macro_rules | `(tactic| walk_at "rd") => `(tactic| repeat (first | refine ⟨_, rfl, ?_⟩ | refine ⟨_, _, rfl, rfl, ?_⟩))
section
variable {P:Program} {w:World} {mg:Str->Option Value} {base:Heap} {f:Addr} {fd:FuncData}
inductive ycq (K:PySem.W.Frag) (vs:List V) (H:Hp) (Q:VK) (E:XK):Prop
 |mk (a:Addr) (p m t x:Nat) (z:Int) (c1:vs=[.ref a,Vn x,.int z]) (c2:Fld K H a p m t) (c3:Good p m t) (c4:x<p^m) (c5:(x=0->0<=z)) (c6:Q (Vn (pwz p m t x z)) H):ycq K vs H Q E
theorem ygx:yad ["field","one","many"] ["field","one","many"] (zac yee):=⟨rfl,rfl,rfl,by decide +kernel,rfl,by decide +kernel,by decide +kernel⟩
theorem zgs(B:Bl mg)(h_times_itself:Has P w K mg base 4 "times_itself" ["field","one","many"] (zcc K))(h_many_things:Has P w K mg base 2 "many_things" ["field"] (ycE K))(F:Fun K "power" "power" yee f fd):FnOk P w K mg base CX0 5 f fd ["field","one","many"] (ycq K):=by
 refine F.ok ygx (λvs H Q E h=>?_) (λcdv A outer s H vs Q E hr h=>?_)
 ·obtain⟨a,p,m,t,x,z,rfl,_⟩:=h;rfl
 obtain⟨a,p,m,t,x,z,rfl,hF,G,hx,hz,q⟩:=h;have hp:=G.hp;have hm:=G.hm;have hQ:=zap hp hm;unfold pwz at q;refine⟨_,(((zbN∪(pv 2)∪yab)*>((~~~(yab⁻¹)),yao))<=<((zbN∪(pv 1)∪yab)*>((((zhP∪(pv 2)∪yab)*>((~~~yct),yao))<=<(~~~(yab⁻¹))),yao))<=<(~~~((h_times_itself<$>((pv 0)>=>(pv 1)>=>(zax|||(pv 2)|||(yan|||(h_many_things<$>((pv 0)>=>zab))|||yab))>=>zab))⁻¹))),?_⟩
 try dsimp only[cxOf]
 refine⟨_,rfl,rfl,_,rfl,?_⟩;by_cases cz:z=0
 ·subst cz;refine ite2 (λ_=>?_) (λh=>absurd (decide_eq_true rfl) h);have e:(if x=0 then(if (0:Int)=0 then 1 else 0) else pw p m t x ((0:Int)%(((p^m:Nat):Int)-1)).toNat)=1:=by
   by_cases c:x=0
   ·rw[if_pos c,if_pos rfl]
   ·rw[if_neg c,Int.zero_emod];rfl
  rw[e]at q;exact q
 ·refine ite2 (λh=>absurd (V.int.inj (of_decide_eq_true h)) cz) (λ_=>?_);dsimp only[yex];refine⟨_,rfl,rfl,_,rfl,?_⟩;rw[ybq];refine ite2 (λc=>?_) (λc=>?_)
  ·have x0:x=0:=of_decide_eq_true c;rw[if_pos x0,if_neg cz]at q;refine⟨_,rfl,_,_,rfl,rfl,_,rfl,?_⟩;refine ite2 (λh=>absurd (of_decide_eq_true h) (by have:=hz x0;lia)) (λ_=>?_);exact q
  ·have x0:¬ x=0:=λh=>c (decide_eq_true h)
   rw[if_neg x0]at q;dsimp only[yex];refine⟨_,rfl,_,rfl,_,rfl,_,rfl,a,p,m,t,rfl,hF,p_le hp hm G.hq,by have:=m_le hp G.hq;lia,?_⟩;refine⟨_,_,rfl,rfl,_,_,rfl,rfl,by show(0:Int)<((p^m:Nat):Int)-1;lia,?_⟩;have hz0:=Int.emod_nonneg z (show((p^m:Nat):Int)-1≠0 by lia);obtain⟨k,ek⟩:=Int.eq_ofNat_of_zero_le hz0;refine⟨a,p,m,t,x,k,?_,hF,G,hx,?_⟩
   ·show [V.ref a,Vn x,V.int (z%(((p^m:Nat):Int)-1))]=[V.ref a,Vn x,Vn k]
    rw[ek]
   ·rw[ek]at q;exact q
end
end My
end
section
namespace My
open PySem L2 Dg
section
variable {p m t:Nat}
section
variable (hp:2<=p) (hm:1<=m)
include hp hm
theorem yeQ(n:Nat):sumF p m n (λ_=>0)=0:=by
 have:=zaZ hp hm (λ_=>0) 0 n λ_ _ _=>rfl
 rw[Nat.zero_add]at this;exact this
theorem zgM(a b:Nat)(f:Nat->Nat->Nat):sumF p m a (λi=>sumF p m b λj=>f i j)=sumF p m b (λj=>sumF p m a λi=>f i j):=by
 induction a with
 |zero=>exact(yeQ hp hm b).symm
 |succ a ih=>
  show add p m (sumF p m a λi=>sumF p m b λj=>f i j) (sumF p m b λj=>f a j)=sumF p m b λj=>add p m (sumF p m a λi=>f i j) (f a j)
  rw[ih,ycH hp hm]
theorem ygb(f:Nat->Nat){a:Nat}(ha:f a<p^m)(h0:∀i,i≠a->f i=0):∀n,a<n->sumF p m n f=f a
 |0,h=>absurd h (by lia)
 |n+1,h=>by
  show add p m (sumF p m n f) (f n)=f a;by_cases e:a=n
  ·subst e;have z:=zaZ hp hm f 0 a λi _ h2=>h0 i (by lia)
   rw[Nat.zero_add]at z;rw[z];exact zero_add hp hm ha
  ·rw[ygb f ha h0 n (by lia),h0 n (by lia),add_zero hp hm ha]
theorem zfh{x y c:Nat}(hx:x<p^m)(hy:y<p^m)(h:add p m x c=add p m y c):x=y:=by
 rw[<-zbe hp hm (y:=c) hx,h,zbe hp hm hy]
end
variable (G:Good p m t)
include G
omit G in
theorem rget{n:Nat}{f:Nat->Nat}{i:Nat}(h:i<n):((List.range n).map f).getD i 0=f i:=by
 rw[List.getD_eq_getElem?_getD,List.getElem?_map,List.getElem?_range h];rfl
end
end My
end
section
namespace My
open PySem L2 Dg
def padL(a b:Nat)(row:List Nat):List Nat:=List.replicate a 0++row++List.replicate b 0
theorem yhA(a b:Nat)(row:List Nat):(padL a b row).length=a+row.length+b:=by simp[padL];lia
section
variable {p m t:Nat} (G:Good p m t)
include G
theorem zgq{x r:Nat}{row:List Nat}(hx:x<p^m)(hr:∀y∈row,y<p^m):add p m (val p m t x (mkS p m t r row)) (mul p m t r (val p m t x row))=mul p m t (val p m t x row) x:=by
 have hp:=G.hp;have hm:=G.hm;have h0:=zae hp hm;have hA:∀i,(0::row).getD i 0<p^m:=λi=>by
  cases i with
  |zero=>exact h0
  |succ i=>
   rw[List.getD_cons_succ];rcases Nat.lt_or_ge i row.length with h|h
   ·exact zaG hr h
   ·rw[yas h];exact h0
 rw[yaO hp hm hx _ (ye5 G),zcX,yaO hp hm hx row hr];have e1:(sumF p m (row.length+1) λk=>mul p m t ((mkS p m t r row).getD k 0) (pw p m t x k))=sumF p m (row.length+1) λk=>mul p m t (sub p m ((0::row).getD k 0) (mul p m t r ((row++[0]).getD k 0))) (pw p m t x k):=by
  refine yaj hp hm _ λk hk=>?_
  rw[show(mkS p m t r row).getD k 0=_ from rget hk]
 have e2:mul p m t r (sumF p m row.length λk=>mul p m t (row.getD k 0) (pw p m t x k))=sumF p m (row.length+1) λk=>mul p m t (mul p m t r ((row++[0]).getD k 0)) (pw p m t x k):=by
  rw[zaZ hp hm _ row.length 1 λi h1 h2=>by
   have:i=row.length:=by lia
   subst this;have e:(row++[0]).getD row.length 0=0:=by simp[List.getD]
   rw[e,mul_zero hp hm,zero_mul hp hm],mul_comm hp hm,<-zbv hp hm]
  refine yaj hp hm _ λk hk=>?_
  have e:(row++[0]).getD k 0=row.getD k 0:=by simp[List.getD,List.getElem?_append,hk]
  rw[e,mul_comm hp hm r,mul_assoc hp hm,mul_assoc hp hm,mul_comm hp hm r]
 have e3:mul p m t (sumF p m row.length λk=>mul p m t (row.getD k 0) (pw p m t x k)) x=sumF p m (row.length+1) λk=>mul p m t ((0::row).getD k 0) (pw p m t x k):=by
  rw[zcF hp hm (f:=λk=>mul p m t ((0::row).getD k 0) (pw p m t x k)) (λi=>yap hp hm _ _)];rw[show(0::row).getD 0 0=0 from rfl,zero_mul hp hm,zero_add hp hm (yeW hp hm _ _),<-zbv hp hm];refine yaj hp hm _ λk _=>?_
  rw[List.getD_cons_succ,mul_assoc hp hm];rfl
 rw[e1,e2,e3,<-ycH hp hm];refine yaj hp hm _ λk _=>?_
 rw[<-add_mul hp hm,ybB hp hm (hA k)]
theorem zeN{root x:Nat}(hx:x<p^m):∀(marks row:List Nat),(∀y∈row,y<p^m)->(val p m t x row=0\/∃k∈marks,x=pw p m t root k)->val p m t x (marks.foldl (λrow k=>mkS p m t (pw p m t root k) row) row)=0
 | [],row,_,h=>by
  rcases h with h |⟨k,hk,_⟩
  ·exact h
  ·cases hk
 |k::ms,row,hr,h=>by
  have hp:=G.hp;have hm:=G.hm;rw[List.foldl_cons];have key:=zgq G (r:=pw p m t root k) hx hr;refine zeN hx ms _ (ye5 G) ?_;by_cases c:val p m t x row=0\/x=pw p m t root k
  ·left;refine zfh hp hm (c:=mul p m t (pw p m t root k) (val p m t x row)) (ybx hp hm _ _) (zae hp hm) ?_;rw[key,zero_add hp hm (yap hp hm _ _)];rcases c with c|c
   ·rw[c,zero_mul hp hm,mul_zero hp hm]
   ·rw[<-c,mul_comm hp hm]
  ·right;rcases h with h |⟨k',hk',e⟩
   ·exact absurd (.inl h) c
   ·rcases List.mem_cons.mp hk' with h1|h1
    ·exact absurd (.inr (h1 ▸ e)) c
    ·exact⟨k',h1,e⟩
theorem yb9{root k:Nat}{marks:List Nat}(h:k∈marks):val p m t (pw p m t root k) (mkL p m t root marks)=0 :=
 zeN G (yaw G.hp G.hm _ _) marks [1] (λy hy=>by rw[List.mem_singleton.mp hy];exact zap G.hp G.hm) (.inr ⟨k,h,rfl⟩)
theorem ydD{x:Nat}(a b:Nat){row:List Nat}(h:val p m t x row=0):val p m t x (padL a b row)=0:=by
 have hp:=G.hp;have hm:=G.hm;have z0:add p m (mul p m t 0 x) 0=0:=by rw[zero_mul hp hm,add_zero hp hm (zae hp hm)]
 have z1:∀b,val p m t x (List.replicate b 0)=0:=λb=>by
  induction b with
  |zero=>rfl
  |succ b ih=>
   rw[List.replicate_succ];show add p m (mul p m t (val p m t x (List.replicate b 0)) x) 0=0;rw[ih];exact z0
 have z2:∀l:List Nat,val p m t x (l++List.replicate b 0)=val p m t x l:=λl=>by
  induction l with
  |nil=>exact z1 b
  |cons y l ih=>
   show add p m (mul p m t (val p m t x (l++List.replicate b 0)) x) y=add p m (mul p m t (val p m t x l) x) y;rw[ih]
 unfold padL;rw[z2]
 induction a with
 |zero=>exact h
 |succ a ih=>
  rw[List.replicate_succ];show add p m (mul p m t (val p m t x (List.replicate a 0++row)) x) 0=0;rw[ih];exact z0
theorem yhb{a b:Nat}{row:List Nat}(h:∀y∈row,y<p^m):∀y∈padL a b row,y<p^m:=λy hy=>by
 have h0:=zae G.hp G.hm;rcases List.mem_append.mp hy with h1|h1
 ·rcases List.mem_append.mp h1 with h1|h1
  ·rw[(List.mem_replicate.mp h1).2];exact h0
  ·exact h y h1
 ·rw[(List.mem_replicate.mp h1).2];exact h0
end
end My
end
section
namespace My
open PySem L2 Dg
theorem yeh:∀ {l l':List Nat},l.Nodup->(∀x∈l,x∈l')->l.length<=l'.length
 | [],_,_,_=>Nat.zero_le _
 |x::l,l',hd,h=>by
  have hd':=List.nodup_cons.mp hd;have hx:=h x List.mem_cons_self;have:=yeh (l:=l) (l':=l'.erase x) hd'.2 λy hy=>(List.mem_erase_of_ne (λe=>hd'.1 (by rw[<-e];exact hy))).mpr (h y (List.mem_cons_of_mem _ hy))
  rw[List.length_erase_of_mem hx]at this;have:=List.length_pos_of_mem hx;rw[List.length_cons];lia
theorem zcB(q k:Nat):q-1 ∣ q^k-1:=by
 induction k with
 |zero=>simp
 |succ k ih=>
  obtain⟨c,hc⟩:=ih;rcases Nat.eq_zero_or_pos q with h|h
  ·subst h;simp
  ·have hk:1<=q^k:=Nat.pow_pos h;refine⟨q^k+c,?_⟩;have e:q^k=(q-1)*c+1:=by lia
   rw[Nat.pow_succ,Nat.mul_add,<-hc,Nat.mul_comm (q-1),Nat.mul_sub,Nat.mul_one];have:=Nat.mul_le_mul_left (q^k) h
   lia
section
variable {p m t:Nat} (G:Good p m t)
include G
theorem zge{few:Nat}(hf:m%few=0)(hf1:1<=few):(lets p m t few).length<=p^few:=by
 have hp:=G.hp;have hm:=G.hm;obtain⟨b,Pb⟩:=G.prim;have hq2:2<=p^few:=Nat.le_trans hp (Nat.le_self_pow (by lia) p);obtain⟨kk,hkk⟩:p^few-1 ∣ p^m-1:=by
  have:=zcB (p^few) (m/few);rw[<-Nat.pow_mul,Nat.mul_div_cancel' (Nat.dvd_of_mod_eq_zero hf)]at this;exact this
 have h1:=zap hp hm;have hnd:(lets p m t few).Nodup:=List.Pairwise.filter _ (List.pairwise_lt_range.imp λh=>by lia);have hs:=yeh (l':=0::(List.range (p^few-1)).map λj=>pw p m t b (kk*j)) hnd λx hx=>by
  obtain⟨hxr,hxe⟩:=List.mem_filter.mp hx;have hxr:=List.mem_range.mp hxr;have hxe:pw p m t x (p^few)=x:=of_decide_eq_true hxe;rcases Nat.eq_zero_or_pos x with h0|h0
  ·rw[h0];exact List.mem_cons_self
  ·refine List.mem_cons_of_mem _ ?_;obtain⟨i,hi,rfl⟩:=Pb.all x h0 hxr;rw[<-yaF hp hm]at hxe;have e1:(i*p^few)%(p^m-1)=i:=by
    refine G.inj Pb _ _ (Nat.mod_lt _ (by lia)) hi ?_;rw[G.pw_mod Pb.pos Pb.lt];exact hxe
   have d1:p^m-1 ∣ i*(p^few-1):=by
    have e2:=Nat.div_add_mod (i*p^few) (p^m-1);rw[e1]at e2;refine⟨i*p^few/(p^m-1),?_⟩;rw[Nat.mul_sub,Nat.mul_one];lia
   rw[hkk,Nat.mul_comm i]at d1;have d2:=Nat.dvd_of_mul_dvd_mul_left (by lia) d1;obtain⟨j,rfl⟩:=d2;refine List.mem_map.mpr ⟨j,List.mem_range.mpr ?_,rfl⟩;rw[hkk,Nat.mul_comm (p^few-1)]at hi;exact Nat.lt_of_mul_lt_mul_left hi
 rw[List.length_cons,List.length_map,List.length_range]at hs
 lia
theorem zcH{r n a b:Nat}(r0:0<r)(hr:r<p^m)(o:Ord p m t r n)(ha:a<n)(hb:b<n)(h:pw p m t r a=pw p m t r b):a=b:=by
 have hp:=G.hp;have hm:=G.hm;have es:∀i,mul p m t (pw p m t (pw p m t r (p^m-2)) i) (pw p m t r i)=1:=λi=>by rw[<-yde hp hm,G.inv r0 hr,ybO hp hm]
 have inj:∀a b,a<b->b<n->pw p m t r a=pw p m t r b->False:=λa b hab hb h=>by
  refine o.min (b-a) (by lia) (by lia) ?_;have h2:=ya1 (t:=t) hp hm r a (b-a);rw[show a+(b-a)=b by lia,<-h]at h2;have h3:=congrArg (λz=>mul p m t (pw p m t (pw p m t r (p^m-2)) a) z) h2;rw[es,<-mul_assoc hp hm,es,one_mul hp hm (yaw hp hm _ _)]at h3;exact h3.symm
 rcases Nat.lt_trichotomy a b with h1|h1|h1
 ·exact(inj a b h1 hb h).elim
 ·exact h1
 ·exact(inj b a h1 ha h.symm).elim
theorem yg2{root x:Nat}(hx:x<p^m):∀(marks row:List Nat),(∀y∈row,y<p^m)->0<val p m t x row->(∀k∈marks,x≠pw p m t root k)->0<val p m t x (marks.foldl (λrow k=>mkS p m t (pw p m t root k) row) row)
 | [],_,_,h,_=>h
 |k::ms,row,hr,h,hk=>by
  have hp:=G.hp;have hm:=G.hm;rw[List.foldl_cons];refine yg2 hx ms _ (ye5 G) ?_ λk' hk'=>hk k' (List.mem_cons_of_mem _ hk')
  rcases Nat.eq_zero_or_pos (val p m t x (mkS p m t (pw p m t root k) row)) with c|c
  ·have key:=zgq G (r:=pw p m t root k) hx hr;have hv:=ybx (t:=t) hp hm x row;rw[c,zero_add hp hm (yap hp hm _ _)]at key
   exfalso
   refine hk k List.mem_cons_self ?_;have hi:=G.inv h hv;have h3:=congrArg (λz=>mul p m t z (pw p m t (val p m t x row) (p^m-2))) key;rw[mul_assoc hp hm,mul_comm hp hm (val p m t x row) (pw p m t (val p m t x row) (p^m-2)),hi,mul_one hp hm (yaw hp hm _ _),mul_comm hp hm (val p m t x row) x,mul_assoc hp hm,mul_comm hp hm (val p m t x row) (pw p m t (val p m t x row) (p^m-2)),hi,mul_one hp hm hx]at h3;exact h3.symm
  ·exact c
theorem yie{root n k:Nat}{marks:List Nat}(r0:0<root)(hr:root<p^m)(o:Ord p m t root n)(hl:∀x∈marks,x<n)(hk:k<n)(hkm:k∉marks):0<val p m t (pw p m t root k) (mkL p m t root marks):=by
 refine yg2 G (yaw G.hp G.hm _ _) marks [1] (λy hy=>by rw[List.mem_singleton.mp hy];exact zap G.hp G.hm) ?_ λi hi e=>?_
 ·show 0<add p m (mul p m t 0 _) 1;rw[zero_mul G.hp G.hm,zero_add G.hp G.hm (zap G.hp G.hm)];lia
 ·exact hkm (zcH G r0 hr o hk (hl i hi) e ▸ hi)
end
noncomputable def addL(p m:Nat)(xs ys:List Nat):List Nat:=(List.range (min xs.length ys.length)).map λi=>add p m (xs.getD i 0) (ys.getD i 0)
theorem zb8{p m n:Nat}{xs ys:List Nat}(h1:xs.length=n)(h2:ys.length=n):(addL p m xs ys).length=n:=by simp[addL,h1,h2]
section
variable {p m t:Nat} (G:Good p m t)
include G
theorem zeh(xs ys:List Nat):∀x∈addL p m xs ys,x<p^m:=λx hx=>by
 obtain⟨i,_,rfl⟩:=List.mem_map.mp hx;exact ya8 G.hp G.hm _ _
theorem zdw{x n:Nat}{xs ys:List Nat}(hx:x<p^m)(l1:xs.length=n)(l2:ys.length=n)(h1:∀a∈xs,a<p^m)(h2:∀a∈ys,a<p^m):val p m t x (addL p m xs ys)=add p m (val p m t x xs) (val p m t x ys):=by
 have hp:=G.hp;have hm:=G.hm;rw[yaO hp hm hx _ (zeh G xs ys),yaO hp hm hx _ h1,yaO hp hm hx _ h2,zb8 l1 l2,l1,l2,<-ycH hp hm];refine yaj hp hm _ λi hi=>?_
 have e:(addL p m xs ys).getD i 0=add p m (xs.getD i 0) (ys.getD i 0):=rget (by rw[l1,l2,Nat.min_self];exact hi);rw[e,add_mul hp hm]
theorem zcK{x c:Nat}{xs:List Nat}(hx:x<p^m)(h1:∀a∈xs,a<p^m):val p m t x (yat p m t c xs)=mul p m t c (val p m t x xs):=by
 have hp:=G.hp;have hm:=G.hm;have hl:(yat p m t c xs).length=xs.length:=by simp[yat]
 rw[yaO hp hm hx _ (zbZ G c xs),yaO hp hm hx _ h1,hl,mul_comm hp hm c,<-zbv hp hm];refine yaj hp hm _ λk hk=>?_
 rw[show(yat p m t c xs).getD k 0=mul p m t c (xs.getD k 0) from rget hk,mul_comm hp hm c,mul_assoc hp hm,mul_assoc hp hm,mul_comm hp hm c]
end
end My
end
section
namespace My
open PySem L2 Dg
noncomputable def dvF(p m t:Nat)(ds rest:List Nat)(a:Nat):Nat:=mul p m t (rest.getD (a+ds.length-1) 0) (pw p m t (ds.getD (ds.length-1) 0) (p^m-2))
noncomputable def dvJ(p m t:Nat)(ds rest:List Nat)(a c j:Nat):List Nat:=(List.range rest.length).map λi=>if a<=i/\i<a+j then sub p m (rest.getD i 0) (mul p m t c (ds.getD (i-a) 0)) else rest.getD i 0
def dvS(p m t:Nat)(ds rest:List Nat)(a:Nat):List Nat:=dvJ p m t ds rest a (dvF p m t ds rest a) ds.length
def dvI(p m t:Nat)(ds one:List Nat)(N:Nat):Nat->List Nat
 |0=>one
 |i+1=>dvS p m t ds (dvI p m t ds one N i) (N-1-i)
noncomputable def dvQ(p m t:Nat)(ds one:List Nat)(N i:Nat):List Nat:=(List.range N).map λk=>if N<=k+i then dvF p m t ds (dvI p m t ds one N (N-1-k)) k else 0
theorem zc5(p m t:Nat)(ds rest:List Nat)(a c j:Nat):(dvJ p m t ds rest a c j).length=rest.length:=by simp[dvJ]
theorem zch(p m t:Nat)(ds one:List Nat)(N:Nat):∀i,(dvI p m t ds one N i).length=one.length
 |0=>rfl
 |i+1=>by unfold dvI dvS;rw[zc5,zch p m t ds one N i]
theorem yeq{p m t:Nat}{ds rest:List Nat}{a c j i:Nat}(hi:i<rest.length):(dvJ p m t ds rest a c j).getD i 0=if a<=i/\i<a+j then sub p m (rest.getD i 0) (mul p m t c (ds.getD (i-a) 0)) else rest.getD i 0:=by
 unfold dvJ;rw[yea,if_pos hi]
theorem yfg(l:List Nat):((List.range l.length).map λi=>l.getD i 0)=l:=by
 refine List.ext_getElem (by simp) λi h1 h2=>?_
 simp[List.getD,h2]
theorem ygE(p m t:Nat)(ds rest:List Nat)(a c:Nat):dvJ p m t ds rest a c 0=rest:=by
 unfold dvJ
 conv=>rhs;rw[<-yfg rest]
 refine List.map_congr_left λi _=>?_
 rw[if_neg (by lia)]
theorem yhe{p m t:Nat}{ds rest:List Nat}{a c j:Nat}:(dvJ p m t ds rest a c j).set (a+j) (sub p m (rest.getD (a+j) 0) (mul p m t c (ds.getD j 0)))=dvJ p m t ds rest a c (j+1):=by
 refine List.ext_getElem (by simp[dvJ]) λi h1 h2=>?_
 rw[List.getElem_set];simp only[dvJ,List.getElem_map,List.getElem_range];by_cases e:a+j=i
 ·subst e;rw[if_pos rfl,if_pos (by lia),Nat.add_sub_cancel_left]
 ·rw[if_neg e];by_cases c1:a<=i/\i<a+j
  ·rw[if_pos c1,if_pos (by lia)]
  ·rw[if_neg c1,if_neg (by lia)]
theorem zgV(p m t:Nat)(ds one:List Nat)(N:Nat):dvQ p m t ds one N 0=List.replicate N 0:=by
 refine List.ext_getElem (by simp[dvQ]) λi h1 h2=>?_
 simp only[dvQ,List.getElem_map,List.getElem_range,List.getElem_replicate];rw[if_neg (by simp[dvQ]at h1;lia)]
theorem zhx{p m t:Nat}{ds one:List Nat}{N i:Nat}(hi:i<N):(dvQ p m t ds one N i).set (N-1-i) (dvF p m t ds (dvI p m t ds one N i) (N-1-i))=dvQ p m t ds one N (i+1):=by
 refine List.ext_getElem (by simp[dvQ]) λk h1 h2=>?_
 rw[List.getElem_set];simp only[dvQ,List.getElem_map,List.getElem_range];by_cases e:N-1-i=k
 ·subst e;rw[if_pos rfl,if_pos (by lia),show N-1-(N-1-i)=i by lia]
 ·rw[if_neg e];by_cases c:N<=k+i
  ·rw[if_pos c,if_pos (by lia)]
  ·rw[if_neg c,if_neg (by lia)]
theorem zeB(p m t:Nat)(ds one:List Nat)(N i:Nat):(dvQ p m t ds one N i).length=N:=by simp[dvQ]
theorem zfD{xs:List Nat}(h:trim xs=xs)(h0:0<xs.length):xs.getD (xs.length-1) 0≠0:=by
 intro c;have e:xs=xs.take (xs.length-1)++[0]:=by
  have:=zbK (l:=xs) (e:=xs.length-1) (by lia);rw[show xs.length-1+1=xs.length by lia,List.take_length,c]at this;exact this
 have e2:trim xs=trim (xs.take (xs.length-1)):=by conv=>lhs;rw[e,yca]
 have:=zeH (xs.take (xs.length-1));rw[<-e2,h,List.length_take]at this
 lia
theorem zeD{l:List Nat}{n:Nat}(h:∀k,n<=k->l.getD k 0=0):(trim l).length<=n:=by
 rcases Nat.lt_or_ge n (trim l).length with c|c
 ·have h1:=zfD (ydP l) (by lia);rw[zd6]at h1;exact absurd (h _ (by lia)) h1
 ·exact c
section
variable {p m t:Nat} (G:Good p m t)
include G
theorem ybE{xs:List Nat}(h:∀x∈xs,x<p^m)(i:Nat):xs.getD i 0<p^m:=by
 by_cases c:i<xs.length
 ·exact zaG h c
 ·rw[yas (by lia)];exact zae G.hp G.hm
theorem yik(ds rest:List Nat)(a:Nat):dvF p m t ds rest a<p^m:=yap G.hp G.hm _ _
theorem yg3{ds rest:List Nat}{a c j:Nat}(h:∀x∈rest,x<p^m):∀x∈dvJ p m t ds rest a c j,x<p^m:=λx hx=>by
 obtain⟨i,_,rfl⟩:=List.mem_map.mp hx;split
 ·exact zby G.hp G.hm _ _
 ·exact ybE G h i
theorem yck{ds one:List Nat}{N:Nat}(h:∀x∈one,x<p^m):∀i,∀x∈dvI p m t ds one N i,x<p^m
 |0=>h
 |i+1=>yg3 G (yck h i)
theorem zb3{x:Nat}(hx:x<p^m):sub p m x x=0:=by
 have:=zbe G.hp G.hm (y:=x) (zae G.hp G.hm (p:=p) (m:=m));rw[zero_add G.hp G.hm hx]at this;exact this
theorem ye4{ds one:List Nat}{N:Nat}(hN:N=one.length+1-ds.length)(hd:0<ds.length)(hl:0<ds.getD (ds.length-1) 0)(h:∀x∈one,x<p^m)(hds:∀x∈ds,x<p^m):∀i,i<=N->∀k,one.length<=k+i->(dvI p m t ds one N i).getD k 0=0
 |0,_,k,hk=>yas (by unfold dvI;lia)
 |i+1,hi,k,hk=>by
  have hp:=G.hp;have hm:=G.hm;show(dvJ p m t ds (dvI p m t ds one N i) (N-1-i) (dvF p m t ds (dvI p m t ds one N i) (N-1-i)) ds.length).getD k 0=0;by_cases c:k<one.length
  ·rw[yeq (by rw[zch];exact c)];by_cases c2:one.length<=k+i
   ·rw[if_neg (by lia)];exact ye4 hN hd hl h hds i (by lia) k c2
   ·have ek:k=N-1-i+ds.length-1:=by lia
    rw[if_pos (by lia),show k-(N-1-i)=ds.length-1 by lia];unfold dvF;rw[<-ek,mul_assoc hp hm,G.inv hl (ybE G hds _),mul_one hp hm (ybE G (yck G h i) k)];exact zb3 G (ybE G (yck G h i) k)
  ·exact yas (by rw[zc5,zch];lia)
theorem zgH{ds one:List Nat}(hd:0<ds.length)(hl:0<ds.getD (ds.length-1) 0)(h:∀x∈one,x<p^m)(hds:∀x∈ds,x<p^m):(trim (dvI p m t ds one (one.length+1-ds.length) (one.length+1-ds.length))).length<=ds.length-1:=by
 refine zeD λk hk=>?_
 by_cases c:ds.length<=one.length
 ·exact ye4 G rfl hd hl h hds _ (Nat.le_refl _) k (by lia)
 ·rw[show one.length+1-ds.length=0 by lia];exact yas (by unfold dvI;lia)
theorem zhL{x y r:Nat}(hx:x<p^m)(hr:r<p^m):add p m x (mul p m t y (sub p m 0 r))=sub p m x (mul p m t r y):=by
 have hp:=G.hp;have hm:=G.hm;have e1:sub p m 0 r=mul p m t (p-1) r:=by rw[<-ydU (t:=t) hp hm (zae hp hm) hr,zero_add hp hm (yap hp hm _ _)]
 have e2:mul p m t y (mul p m t (p-1) r)=mul p m t (p-1) (mul p m t r y):=by
  rw[mul_comm hp hm y,mul_assoc hp hm]
 rw[e1,e2,ydU hp hm hx (yap hp hm _ _)]
theorem ygr{row:List Nat}{b:Nat}(hr:∀x∈row,x<p^m):∀n,conv p m t row [b,1] n=add p m ((0::row).getD n 0) (mul p m t (row.getD n 0) b)
 |0=>rfl
 |n+1=>by
  have hp:=G.hp;have hm:=G.hm;have h0:sumF p m n (λi=>mul p m t (row.getD i 0) (([b,1]:List Nat).getD (n+1-i) 0))=0:=by
   have:sumF p m n (λi=>mul p m t (row.getD i 0) (([b,1]:List Nat).getD (n+1-i) 0))=sumF p m n λ_=>0:=by
    refine yaj hp hm _ λi hi=>?_
    rw[yas (show([b,1]:List Nat).length<=n+1-i by simp;lia),mul_zero hp hm]
   rw[this];have:=zaZ hp hm (λ_=>0) 0 n (λ_ _ _=>rfl);rw[Nat.zero_add]at this;exact this
  show add p m (add p m (sumF p m n λi=>mul p m t (row.getD i 0) (([b,1]:List Nat).getD (n+1-i) 0)) (mul p m t (row.getD n 0) (([b,1]:List Nat).getD (n+1-n) 0))) (mul p m t (row.getD (n+1) 0) (([b,1]:List Nat).getD (n+1-(n+1)) 0))=_;rw[h0,show n+1-n=1 by lia,Nat.sub_self];show add p m (add p m 0 (mul p m t (row.getD n 0) 1)) (mul p m t (row.getD (n+1) 0) b)=add p m (row.getD n 0) _;rw[mul_one hp hm (ybE G hr n),zero_add hp hm (ybE G hr n)]
omit G in
theorem zcu(row:List Nat)(i:Nat):(row++[0]).getD i 0=row.getD i 0:=by
 by_cases c:i<row.length
 ·rw[List.getD_eq_getElem?_getD,List.getElem?_append_left c,<-List.getD_eq_getElem?_getD]
 ·rw[yas (xs:=row) (by lia),List.getD_eq_getElem?_getD,List.getElem?_append_right (by lia)];cases i-row.length with
  |zero=>rfl
  |succ k=>rfl
theorem ygH{row:List Nat}{r:Nat}(hr:∀x∈row,x<p^m)(hrq:r<p^m)(h0:0<row.length)(hl:row.getD (row.length-1) 0=1):rmul p m t row [sub p m 0 r,1]=mkS p m t r row:=by
 have hp:=G.hp;have hm:=G.hm;have hz:∀n,(0::row).getD n 0<p^m:=λn=>ybE G (λx hx=>by
  rcases List.mem_cons.mp hx with rfl|h
  ·exact zae hp hm
  ·exact hr x h) n
 have e:∀n,conv p m t row [sub p m 0 r,1] n=sub p m ((0::row).getD n 0) (mul p m t r ((row++[0]).getD n 0)):=λn=>by
  rw[ygr G hr,zhL G (hz n) hrq,zcu]
 unfold rmul mkS;rw[show(row.length+([sub p m 0 r,1]:List Nat).length)=row.length+1+1 from rfl,List.range_succ,List.map_append];have ez:conv p m t row [sub p m 0 r,1] (row.length+1)=0:=by
  rw[e,zcu,yas (xs:=row) (i:=row.length+1) (by lia),yas (xs:=0::row) (by simp),mul_zero hp hm];exact zb3 G (zae hp hm)
 rw[List.map_singleton,ez,yca,List.range_succ,List.map_append,List.map_singleton,List.map_append,List.map_singleton];have el:conv p m t row [sub p m 0 r,1] row.length=1:=by
  rw[e,zcu,yas (xs:=row) (i:=row.length) (Nat.le_refl _),mul_zero hp hm];obtain⟨k,hk⟩:∃k,row.length=k+1:=⟨row.length-1,by lia⟩
  rw[hk];show sub p m (row.getD k 0) 0=1;rw[hk]at hl;rw[show k+1-1=k from rfl]at hl;rw[hl];have:=zbe hp hm (x:=1) (y:=0) (zap hp hm);rw[add_zero hp hm (zap hp hm)]at this;exact this
 rw[el,zcz (by decide),<-e,el];refine congrArg (·++[1]) (List.map_congr_left λn _=>e n)
theorem ygZ{row:List Nat}{r:Nat}(h0:0<row.length)(hl:row.getD (row.length-1) 0=1):(mkS p m t r row).getD row.length 0=1:=by
 have hp:=G.hp;have hm:=G.hm;unfold mkS;rw[yea,if_pos (by lia),zcu,yas (xs:=row) (i:=row.length) (Nat.le_refl _),mul_zero hp hm];obtain⟨k,hk⟩:∃k,row.length=k+1:=⟨row.length-1,by lia⟩
 rw[hk];show sub p m (row.getD k 0) 0=1;rw[hk]at hl;rw[show k+1-1=k from rfl]at hl;rw[hl];have:=zbe hp hm (x:=1) (y:=0) (zap hp hm);rw[add_zero hp hm (zap hp hm)]at this;exact this
theorem ye3(root:Nat):∀(marks row:List Nat),0<row.length->row.getD (row.length-1) 0=1->(marks.foldl (λrow k=>mkS p m t (pw p m t root k) row) row).getD (row.length+marks.length-1) 0=1
 | [],row,_,h=>h
 |k::marks,row,h0,h=>by
  have:=ye3 root marks (mkS p m t (pw p m t root k) row) (by rw[zcX];lia) (by rw[zcX];exact ygZ G h0 h);rw[zcX]at this;rw[List.foldl_cons,show row.length+(k::marks).length-1=row.length+1+marks.length-1 by rw[List.length_cons];lia];exact this
theorem yb4(root:Nat)(marks:List Nat):(mkL p m t root marks).getD marks.length 0=1:=by
 have:=ye3 G root marks [1] (by decide) rfl;rw[show([1]:List Nat).length+marks.length-1=marks.length by simp]at this;exact this
end
def mdR(p m t root:Nat)(marks gs:List Nat):List Nat:=trim (List.replicate marks.length 0++gs)
def mdN(p m t root:Nat)(marks gs:List Nat):Nat:=(mdR p m t root marks gs).length+1-(mkL p m t root marks).length
noncomputable def mdL(p m t root:Nat)(marks gs:List Nat):List Nat:=((wid (trim (dvI p m t (mkL p m t root marks) (mdR p m t root marks gs) (mdN p m t root marks gs) (mdN p m t root marks gs))) marks.length).map (sub p m 0))++gs
theorem ze0{p m t root:Nat}{marks gs:List Nat}(G:Good p m t)(h:∀x∈gs,x<p^m):∀x∈mdR p m t root marks gs,x<p^m:=λx hx=>by
 rcases List.mem_append.mp (ycw _ _ hx) with c|c
 ·rw[List.eq_of_mem_replicate c];exact zae G.hp G.hm
 ·exact h x c
theorem ycu{p m t root:Nat}{marks gs:List Nat}(G:Good p m t)(h:∀x∈gs,x<p^m):(trim (dvI p m t (mkL p m t root marks) (mdR p m t root marks gs) (mdN p m t root marks gs) (mdN p m t root marks gs))).length<=marks.length:=by
 have:=zgH G (ds:=mkL p m t root marks) (one:=mdR p m t root marks gs) (by rw[zaN];lia) (by rw[zaN,Nat.add_sub_cancel,yb4 G];exact Nat.one_pos) (ze0 G h) (ybs G marks);rw[zaN,Nat.add_sub_cancel]at this;unfold mdN;rw[zaN];exact this
theorem ycd{p m t root:Nat}{marks gs:List Nat}(G:Good p m t)(h:∀x∈gs,x<p^m):(mdL p m t root marks gs).length=marks.length+gs.length:=by
 unfold mdL;rw[List.length_append,List.length_map,zdI (ycu G h)]
theorem yd9{p m t root:Nat}{marks gs:List Nat}(G:Good p m t)(h:∀x∈gs,x<p^m):∀x∈mdL p m t root marks gs,x<p^m:=λx hx=>by
 rcases List.mem_append.mp hx with c|c
 ·obtain⟨y,_,rfl⟩:=List.mem_map.mp c;exact zby G.hp G.hm _ _
 ·exact h x c
theorem zgX(h:xs[xs.length-1]?=some v):atI xs (-1)=some v:=by
 have hl:0<xs.length:=by
  have:=(List.getElem?_eq_some_iff.mp h).1;lia
 unfold atI ixN;rw[if_neg (by decide),if_pos (by lia)];show(some _).bind _=_;rw[Option.bind_some,<-h];congr 1
 lia
section
variable {P:Program} {w:World} {mg:Str->Option Value} {base:Heap} {f:Addr} {fd:FuncData}
noncomputable def ydG(K:PySem.W.Frag):Sp:=λvs H Q E=>ycK K vs H Q E\/Ex2 λ(a:Addr) (ns:List Nat)=>vs=[.ref a]/\SqT K H a (ns.map Vn)/\ns.length<=1000/\∀r H',Same H H'->SqT K H' r ((trim ns).map Vn)->Q (.ref r) H'
theorem yhZ{k:Nat}(h:Has P w K mg base k x ps (ydG K)):Has P w K mg base k x ps (ycK K):=by
 obtain⟨f,fd,F,B,kp,m⟩:=h;exact⟨f,fd,F.imp λvs H Q E h=>.inl h,B,kp,m⟩
theorem zgN(B:Bl mg)(F:Fun K "trimmed" "trimmed" ycZ f fd):FnOk P w K mg base CX0 1 f fd ["things"] (ydG K):=by
 refine F.ok zcf (λvs H Q E h=>?_) (λcdv A outer s H vs Q E hr h=>?_)
 ·rcases h with⟨a,ns,rfl,_⟩ |⟨a,ns,rfl,_⟩ <;> rfl
 obtain⟨a,ns,rfl,hs,hl,q⟩:Ex2 λ(a:Addr) (ns:List Nat)=>vs=[.ref a]/\(SqL K H a (ns.map Vn)\/SqT K H a (ns.map Vn))/\ns.length<=1000/\((SqL K H a (ns.map Vn)/\∀r H',Same H H'->H r=none->H' r=some (.tup ((trim ns).map Vn))->Q (.ref r) H')\/(SqT K H a (ns.map Vn)/\∀r H',Same H H'->SqT K H' r ((trim ns).map Vn)->Q (.ref r) H')):=by
  rcases h with⟨a,ns,e,ha,hl,q⟩ |⟨a,ns,e,ha,hl,q⟩
  ·exact⟨a,ns,e,.inl ha,hl,.inl ⟨ha,q⟩⟩
  ·exact⟨a,ns,e,.inr ha,hl,.inr ⟨ha,q⟩⟩
 refine⟨_,((1<|>zcf.nd<|>(yae>>>("len",PySem.boot_len,((pv 0)>=>zab))))<=<(@yaC _ _ _ _ _ _ PassesOwn.never (@PW.pt _ _ _ (@yg4 _ _ _ _ _ _ _ (yco∪(pv 1)∪yab) (@ygl _ _ _ _ (zbN∪(yhW<<<(pv 0)<<<(yan|||(pv 1)|||yab))∪yab)))) (~~~(@ybh _ _ 1 _ _ _ _ _ _ zcf.nd rfl (Or.inl rfl) yab yhL (by trivial))))<=<(~~~((yak<*("tuple",yai,((@zcw _ _ _ _ _ _ _ _ _ _ zhY (pv 0) zeo (@zcO _ _ _ (pv 1)))>=>zab)))⁻¹))),?_⟩
 try dsimp only[cxOf]
 refine⟨_,rfl,a,_,rfl,hs,?_⟩
 let I1:St->Hp->Prop:=λσ H'=>H'=H/\∃e:Nat,An3 (e<=ns.length) (trim ns=trim (ns.take e)) (σ=[some (.ref a),some (Vn e)])
 refine yaD I1 (λσ _=>mI σ 1) ⟨rfl,ns.length,Nat.le_refl _,by rw[List.take_length],by rw[List.length_map];rfl⟩ ?_;rintro σ H' ⟨rfl,e,he,ht,rfl⟩;refine zhR (b1:=decide ((0:Int)<(e:Int))) (b2:=decide (ns.getD (e-1) 0=0)) (λQ q=>⟨_,rfl,_,_,rfl,rfl,_,rfl,q⟩) (λc Q q=>?_) ?_
 ·have c':0<e:=by have:=of_decide_eq_true c;lia
  have eat:atI (ns.map Vn) ((e:Int)-1)=some (Vn (ns.getD (e-1) 0)):=by
   rw[show(e:Int)-1=((e-1:Nat):Int) by lia];exact zaz (zar (by lia))
  rcases hs with ha|ha
  ·exact⟨_,rfl,_,rfl,_,_,rfl,rfl,.inl ⟨a,_,_,Vn (ns.getD (e-1) 0),rfl,rfl,ha,eat,rfl,_,rfl,by rw[ybq];exact q⟩⟩
  ·exact⟨_,rfl,_,rfl,_,_,rfl,rfl,.inr ⟨a,_,_,Vn (ns.getD (e-1) 0),rfl,rfl,ha,eat,rfl,_,rfl,by rw[ybq];exact q⟩⟩
 refine ite2 (λc=>?_) (λc=>?_)
 ·simp only[Bool.and_eq_true,decide_eq_true_eq]at c;have hsplit:ns.take e=ns.take (e-1)++[0]:=by
   have:=zbK (l:=ns) (e:=e-1) (by lia);rw[show e-1+1=e by lia,c.2]at this;exact this
  refine⟨λσ' H''=>H''=H'/\σ'=[some (.ref a),some (Vn (e-1))],?_,?_⟩
  ·rintro σ' H'' ⟨rfl,rfl⟩;refine⟨_,?_,rfl,rfl,e-1,by lia,by rw[ht,hsplit,yca],rfl⟩;show e-1<e;lia
  ·refine⟨_,rfl,_,_,rfl,rfl,rfl,?_⟩;show [some (V.ref a),some (V.int ((e:Int)-1))]=_;rw[show(e:Int)-1=((e-1:Nat):Int) by lia]
 ·have hfin:trim ns=ns.take e:=by
   rw[ht];rcases Nat.eq_zero_or_pos e with h0|h0
   ·rw[h0];rfl
   ·have hz:ns.getD (e-1) 0≠0:=by
     intro h;exact c (by simp only[Bool.and_eq_true,decide_eq_true_eq];exact⟨by lia,h⟩)
    have:=zbK (l:=ns) (e:=e-1) (by lia);rw[show e-1+1=e by lia]at this;rw[this,zcz hz]
  have ecut:cutV (ns.map Vn) none (some (e:Int))=(trim ns).map Vn:=by rw[ygz _ _ (by rw[List.length_map];exact he),<-List.map_take,<-hfin]
  rcases q with⟨ha,q⟩ |⟨ha,q⟩
  ·refine⟨_,rfl,_,rfl,_,rfl,.inl ⟨a,_,rfl,ha,λl hl=>?_⟩⟩;rw[ecut];refine⟨l,_,rfl,.inl ⟨SqL.of zaa,λr hr=>?_⟩⟩;exact q r _ ((yaa hl _).trans (yaa hr _)) ((yaa hl _).free hr) zaa
  ·refine⟨_,rfl,_,rfl,_,rfl,.inr ⟨a,_,rfl,ha,λe=>?_,λl hl=>?_⟩⟩
   ·rw[ecut]at e;exact⟨a,_,rfl,.inr ⟨ha,q a _ (Same.refl _) (by rw[e];exact ha)⟩⟩
   ·rw[ecut];exact⟨l,_,rfl,.inr ⟨SqT.of zaa,q l _ (yaa hl _) (SqT.of zaa)⟩⟩
inductive yfS (K:PySem.W.Frag) (vs:List V) (H:Hp) (Q:VK) (E:XK):Prop
 |mk (fa ps:Addr) (p m t root:Nat) (ms:List Nat) (c1:vs=[.ref fa,Vn root,.ref ps]) (c2:Fld K H fa p m t) (c3:Good p m t) (c4:0<root) (c5:root<p^m) (c6:(SqL K H ps (ms.map Vn)\/SqT K H ps (ms.map Vn))) (c7:ms.length<=64) (c8:∀r H',Same H H'->SqT K H' r ((mkL p m t root ms).map Vn)->Q (.ref r) H'):yfS K vs H Q E
theorem yaL:yad ["field","root","powers","row","i"] ["field","root","powers"] (zac ybe):=⟨rfl,rfl,rfl,by decide +kernel,rfl,by decide +kernel,by decide +kernel⟩
theorem yh2(B:Bl mg)(h_row_times:Has P w K mg base 4 "row_times" ["field","one","other"] (ycU K))(h_minus:Has P w K mg base 2 "minus" ["field","one","other"] (yb3 K))(h_power:Has P w K mg base 5 "power" ["field","one","many"] (ycq K))(F:Fun K "row_of_roots" "row_of_roots" ybe f fd):FnOk P w K mg base CX0 6 f fd ["field","root","powers"] (yfS K):=by
 refine F.ok yaL (λvs H Q E h=>?_) (λcdv A outer s H vs Q E hr h=>?_)
 ·obtain⟨fa,ps,p,m,t,root,ms,rfl,_⟩:=h;rfl
 obtain⟨fa,ps,p,m,t,root,ms,rfl,hF,G,h0,hq,hs,hl,q⟩:=h;have hp:=G.hp;have hm:=G.hm;refine⟨_,((3<|>yaL.nd<|>(@yaM _ _ _ _ _ (yab>=>zab)))<=<((@yhw _ _ _ _ (pv 2))<&>((4&&&yaL.nd),(~~~(3<|>yaL.nd<|>(h_row_times<$>((pv 0)>=>(pv 3)>=>(@yaM _ _ _ _ _ ((h_minus<$>((pv 0)>=>yab>=>(h_power<$>((pv 0)>=>(pv 1)>=>(pv 4)>=>zab))>=>zab))>=>yab>=>zab))>=>zab))))))<=<(~~~((pv 3)⁻¹))),?_⟩
 try dsimp only[cxOf]
 refine⟨szl 1,λr0 hr0=>?_⟩;have s0:=yaa hr0 (.tup [V.int 1]);have hml:∀i,i<ms.length->(mkL p m t root (ms.take i)).length=i+1:=λi hi=>by rw[zaN,List.length_take];lia
 have htwo:∀i,∀y∈[sub p m 0 (pw p m t root (ms.getD i 0)),1],y<p^m:=λi y hy=>by
  rcases List.mem_cons.mp hy with rfl|h
  ·exact zby hp hm _ _
  ·rw[List.mem_singleton.mp h];exact zap hp hm
 have hnext:∀i,i<ms.length->rmul p m t (mkL p m t root (ms.take i)) [sub p m 0 (pw p m t root (ms.getD i 0)),1]=mkL p m t root (ms.take (i+1)):=λi hi=>by
  have hmi:ms[i]?=some (ms.getD i 0):=by rw[List.getElem?_eq_getElem hi];simp[List.getD,hi]
  rw[yeL hmi];refine ygH G (ybs G _) (yaw hp hm _ _) (by have:=hml i hi;lia) ?_;have:=yb4 G root (ms.take i);rw[List.length_take,show min i ms.length=i by lia]at this;rw[hml i hi,Nat.add_sub_cancel];exact this
 dsimp only[zaj];rcases hs with hs|hs
 ·refine .inl ⟨_,rfl,ps,rfl,⟨_,Same.seq s0 hs⟩,?_⟩
  let I2:Nat->St->Hp->Prop:=λi σ H'=>Same H H'/\Ex2 λ(rr:Addr) (s4:Option V)=>SqT K H' rr ((mkL p m t root (ms.take i)).map Vn)/\σ=[some (.ref fa),some (Vn root),some (.ref ps),some (.ref rr),s4]
  refine yaG (yaH (xs:=ms.map Vn)) I2 ⟨s0,r0,none,SqT.of zaa,rfl⟩ (λi σ H' _ h=>Same.seq h.1 hs) ?_ ?_
  ·rintro i z σ H2 H2' hi ⟨s2,rr,s4,hrr,rfl⟩ ⟨rfl,ez⟩;rw[List.length_map]at hi;rw[zar hi]at ez;cases ez;refine⟨_,rfl,_,rfl,_,rfl,_,rfl,_,rfl,_,rfl,fa,p,m,t,root,((ms.getD i 0:Nat):Int),rfl,Same.tup s2 hF,G,hq,λh=>by lia,?_⟩;rw[zcT G hq];refine⟨fa,p,m,t,0,_,rfl,Same.tup s2 hF,hp,p_le hp hm G.hq,λr h2=>?_⟩;cases ye8 hp hm (zae hp hm) (yaw hp hm _ _) h2;refine⟨szl 2,λtt htt=>?_⟩;have st:=yaa htt (.tup [Vn (sub p m 0 (pw p m t root (ms.getD i 0))),.int 1]);refine⟨fa,rr,tt,p,m,t,mkL p m t root (ms.take i),[sub p m 0 (pw p m t root (ms.getD i 0)),1],rfl,Same.tup (s2.trans st) hF,G,Same.tup st hrr,SqT.of zaa,by have:=hml i hi;lia,by show 2<=200;decide,ybs G _,htwo i,λr H3 s3 nr er=>?_⟩;rw[hnext i hi]at er;exact⟨(s2.trans st).trans s3,r,_,SqT.of er,rfl⟩
  ·rw[List.length_map];rintro σ H2 ⟨s2,rr,s4,hrr,rfl⟩;rw[List.take_length]at hrr;exact⟨_,rfl,q rr H2 s2 hrr⟩
 ·refine .inr ⟨_,rfl,ps,rfl,⟨_,Same.tup s0 hs⟩,?_⟩
  let I3:Nat->St->Hp->Prop:=λi σ H'=>Same H H'/\Ex2 λ(rr:Addr) (s4:Option V)=>SqT K H' rr ((mkL p m t root (ms.take i)).map Vn)/\σ=[some (.ref fa),some (Vn root),some (.ref ps),some (.ref rr),s4]
  refine yaG (zaW (xs:=ms.map Vn)) I3 ⟨s0,r0,none,SqT.of zaa,rfl⟩ (λi σ H' _ h=>Same.tup h.1 hs) ?_ ?_
  ·rintro i z σ H2 H2' hi ⟨s2,rr,s4,hrr,rfl⟩ ⟨rfl,ez⟩;rw[List.length_map]at hi;rw[zar hi]at ez;cases ez;refine⟨_,rfl,_,rfl,_,rfl,_,rfl,_,rfl,_,rfl,fa,p,m,t,root,((ms.getD i 0:Nat):Int),rfl,Same.tup s2 hF,G,hq,λh=>by lia,?_⟩;rw[zcT G hq];refine⟨fa,p,m,t,0,_,rfl,Same.tup s2 hF,hp,p_le hp hm G.hq,λr h2=>?_⟩;cases ye8 hp hm (zae hp hm) (yaw hp hm _ _) h2;refine⟨szl 2,λtt htt=>?_⟩;have st:=yaa htt (.tup [Vn (sub p m 0 (pw p m t root (ms.getD i 0))),.int 1]);refine⟨fa,rr,tt,p,m,t,mkL p m t root (ms.take i),[sub p m 0 (pw p m t root (ms.getD i 0)),1],rfl,Same.tup (s2.trans st) hF,G,Same.tup st hrr,SqT.of zaa,by have:=hml i hi;lia,by show 2<=200;decide,ybs G _,htwo i,λr H3 s3 nr er=>?_⟩;rw[hnext i hi]at er;exact⟨(s2.trans st).trans s3,r,_,SqT.of er,rfl⟩
  ·rw[List.length_map];rintro σ H2 ⟨s2,rr,s4,hrr,rfl⟩;rw[List.take_length]at hrr;exact⟨_,rfl,q rr H2 s2 hrr⟩
inductive ydC (K:PySem.W.Frag) (vs:List V) (H:Hp) (Q:VK) (E:XK):Prop
 |mk (wh fa mk:Addr) (p m t few root:Nat) (marks:List Nat) (c1:vs=[.ref wh]) (c2:WhAt H wh fa mk few root marks) (c3:Fld K H fa p m t) (c4:Good p m t) (c5:0<root) (c6:root<p^m) (c7:marks.length<=64) (c8:∀r H',Same H H'->SqT K H' r ((mkL p m t root marks).map Vn)->Q (.ref r) H'):ydC K vs H Q E
theorem zb0:yad ["wheel","field","few","root","marks"] ["wheel"] (zac yez):=⟨rfl,rfl,rfl,by decide +kernel,rfl,by decide +kernel,by decide +kernel⟩
theorem ygU(B:Bl mg)(h_row_of_roots:Has P w K mg base 6 "row_of_roots" ["field","root","powers"] (yfS K))(F:Fun K "maker" "maker" yez f fd):FnOk P w K mg base CX0 7 f fd ["wheel"] (ydC K):=by
 refine F.ok zb0 (λvs H Q E h=>?_) (λcdv A outer s H vs Q E hr h=>?_)
 ·obtain⟨wh,fa,mk,p,m,t,few,root,marks,rfl,_⟩:=h;rfl
 obtain⟨wh,fa,mk,p,m,t,few,root,marks,rfl,hW,hF,G,h0,hq,hl,q⟩:=h;refine⟨_,(((pv 0)≈((1&&&zb0.nd)∩((2&&&zb0.nd)∩((3&&&zb0.nd)∩((4&&&zb0.nd)∩yav)))))<=<(~~~((h_row_of_roots<$>((pv 1)>=>(pv 3)>=>(pv 4)>=>zab))⁻¹))),?_⟩
 try dsimp only[cxOf]
 refine⟨_,rfl,wh,_,rfl,SqT.of hW.w,rfl,_,_,rfl,_,_,rfl,_,_,rfl,_,_,rfl,rfl,?_⟩;exact⟨_,rfl,_,rfl,_,rfl,fa,mk,p,m,t,root,marks,rfl,hF,G,h0,hq,.inr (SqT.of hW.k),hl,q⟩
inductive ydr (K:PySem.W.Frag) (vs:List V) (H:Hp) (Q:VK) (E:XK):Prop
 |mk (fa a b:Addr) (p m t:Nat) (one ds:List Nat) (c1:vs=[.ref fa,.ref a,.ref b]) (c2:Fld K H fa p m t) (c3:Good p m t) (c4:SqT K H a (one.map Vn)) (c5:SqT K H b (ds.map Vn)) (c6:one.length<=200) (c7:ds.length<=200) (c8:0<ds.length) (c9:0<ds.getD (ds.length-1) 0) (c10:(∀x∈one,x<p^m)) (c11:(∀x∈ds,x<p^m)) (c12:∀r q1 q2 H',Same H H'->H' r=some (.tup [.ref q1,.ref q2])->H' q1=some (.tup ((trim (dvQ p m t ds one (one.length+1-ds.length) (one.length+1-ds.length))).map Vn))->H' q2=some (.tup ((trim (dvI p m t ds one (one.length+1-ds.length) (one.length+1-ds.length))).map Vn))->Q (.ref r) H'):ydr K vs H Q E
theorem yaI:yad ["field","one","other","rest","quotient","at","factor","k","thing"] ["field","one","other"] (zac ych):=⟨rfl,rfl,rfl,by decide +kernel,rfl,by decide +kernel,by decide +kernel⟩
theorem zgY(B:Bl mg)(h_over:Has P w K mg base 5 "over" ["field","one","other"] (zeI K))(h_minus:Has P w K mg base 2 "minus" ["field","one","other"] (yb3 K))(h_times:Has P w K mg base 3 "times" ["field","one","other"] (zba K))(h_trimmed:Has P w K mg base 1 "trimmed" ["things"] (ycK K))(F:Fun K "row_over" "row_over" ych f fd):FnOk P w K mg base CX0 6 f fd ["field","one","other"] (ydr K):=by
 refine F.ok yaI (λvs H Q E h=>?_) (λcdv A outer s H vs Q E hr h=>?_)
 ·obtain⟨fa,a,b,p,m,t,one,ds,rfl,_⟩:=h;rfl
 obtain⟨fa,a,b,p,m,t,one,ds,rfl,hF,G,ha,hb,lo,ld,hd,hlast,ho,hds,q⟩:=h;have hp:=G.hp;have hm:=G.hm;have hp2:=p_le hp hm G.hq;refine⟨_,((((ze1 hr.units0)∪(pv 2)∪(@yaM _ _ _ _ _ zab))*>((~~~yct),yao))<=<(3<|>yaI.nd<|>(zcm<*("list",za7,((pv 1)>=>zab))))<=<(4<|>yaI.nd<|>(zcn|||(@zaq _ _ _ _ (yab>=>zab))|||((zd0 rfl)>>>("max",ycN,(yab>=>(yag|||(yan|||(yae>>>("len",PySem.boot_len,((pv 1)>=>zab)))|||(yae>>>("len",PySem.boot_len,((pv 2)>=>zab))))|||yab)>=>zab)))))<=<((@yhq _ _ _ _ _ _ rfl (B "reversed" (by decide)) ((@zcD _ _ _ _ _ rfl (B "range" (by decide)) ((yae>>>("len",PySem.boot_len,((pv 4)>=>zab)))>=>zab) ⋯)>=>zab) ⋯)<&>((5&&&yaI.nd),((6<|>yaI.nd<|>(h_over<$>((pv 0)>=>(yah<<<(pv 3)<<<(yan|||(yag|||(pv 5)|||(yae>>>("len",PySem.boot_len,((pv 2)>=>zab))))|||yab))>=>(zam<<<(pv 2)<<<(@yfk _ _ _ _ _ _ ydh yab))>=>zab)))<=<(@zbO _ _ _ _ _ _ (pv 6) (@zca _ _ _ _ _ _ _ (pv 4) (pv 5) zaP (by intro _;rfl)) ⋯ ⋯ ⋯)<=<(~~~((@ybw _ _ _ _ _ _ _ _ rfl (B "enumerate" (by decide)) ((pv 2)>=>zab) ⋯)<&>((@ycb _ _ _ _ _ _ rfl ((7&&&yaI.nd)∩((8&&&yaI.nd)∩yav)) ⋯ ⋯),(~~~(@zbO _ _ _ _ _ _ (h_minus<$>((pv 0)>=>(yah<<<(pv 3)<<<(yag|||(pv 5)|||(pv 7)))>=>(h_times<$>((pv 0)>=>(pv 6)>=>(pv 8)>=>zab))>=>zab)) (@zca _ _ _ _ _ _ _ (pv 3) (yag|||(pv 5)|||(pv 7)) zaP (by intro _;rfl)) ⋯ ⋯ ⋯))))))))<=<(~~~((@yaM _ _ _ _ _ ((h_trimmed<$>((pv 4)>=>zab))>=>(h_trimmed<$>((pv 3)>=>zab))>=>zab))⁻¹))),?_⟩
 try dsimp only[cxOf]
 refine⟨_,rfl,szl 0,λe0 he0=>?_⟩;have t0:=yaa he0 (.tup []);refine⟨b,e0,ds.map (λx:Nat=>(x:Int)),[],rfl,rfl,by rw[mapI];exact Same.tup t0 hb,SqT.of zaa,_,rfl,?_⟩;refine ite2 (λc=>?_) (λ_=>?_)
 ·have c':ds.map (λx:Nat=>(x:Int))=[]:=by simpa using c
  have:=congrArg List.length c';rw[List.length_map]at this;have h0:ds.length=0:=this
  lia
 dsimp only[yex];refine⟨_,rfl,a,_,rfl,.inr (Same.tup t0 ha),λrs hrs=>?_⟩;have t1:=t0.trans (yaa hrs (.lst (one.map Vn)));have ers:upd (upd H e0 (.tup [])) rs (.lst (one.map Vn)) rs=some (.lst (one.map Vn)):=zaa;have nrs:=t0.free hrs;dsimp only[zaj];generalize upd (upd H e0 (.tup [])) rs (.lst (one.map Vn))=H1 at t1 ers ⊢;refine⟨szl 1,λl0 hl0=>?_⟩;have t2:=yaa hl0 (.lst [V.int 0]);refine⟨_,rfl,a,_,rfl,.inr (Same.tup (t1.trans t2) ha),_,rfl,b,_,rfl,.inr (Same.tup (t1.trans t2) hb),_,_,rfl,rfl,_,_,rfl,rfl,_,_,rfl,?_⟩;have eN:(if (((one.map Vn).length:Nat):Int)-(((ds.map Vn).length:Nat):Int)+1>0 then(((one.map Vn).length:Nat):Int)-(((ds.map Vn).length:Nat):Int)+1 else 0)=((one.length+1-ds.length:Nat):Int):=by
  rw[List.length_map,List.length_map];split <;> lia
 rw[eN];obtain⟨N,hN⟩:∃N,one.length+1-ds.length=N:=⟨_,rfl⟩
 rw[hN]at q ⊢;refine⟨l0,(N:Int),_,rfl,rfl,zaa,by lia,by lia,by rw[Int.toNat_natCast];exact szl _ (by simp;lia),λqt hqt=>?_⟩;rw[Int.toNat_natCast,zcx,<-zgV p m t ds one N];have t3:=t2.trans (yaa hqt (.lst ((dvQ p m t ds one N 0).map Vn)));have nqt:=(t1.trans t2).free hqt;have eqt:upd (upd H1 l0 (.lst [V.int 0])) qt (.lst ((dvQ p m t ds one N 0).map Vn)) qt=some (.lst ((dvQ p m t ds one N 0).map Vn)):=zaa;have ers3:=t3 _ _ ers;dsimp only[zaj];generalize upd (upd H1 l0 (.lst [V.int 0])) qt (.lst ((dvQ p m t ds one N 0).map Vn))=H3 at t3 eqt ers3 ⊢;have s3:=t1.trans t3;have nqr:rs≠qt:=λe=>by
  have h1:H1 qt=none:=t2.free hqt;rw[<-e,ers]at h1;cases h1
 refine⟨_,rfl,qt,_,rfl,.inl (SqL.of eqt),_,rfl,λrg hrg=>?_⟩;refine⟨rg,N,rfl,by rw[zaa,List.length_map,zeB],by lia,?_⟩;have s4:=s3.trans (yaa hrg (.rng 0 (((dvQ p m t ds one N 0).map Vn).length:Int)));refine yaG yed (/-I4-/λi σ H'=>Same H H'/\H' rs=some (.lst ((dvI p m t ds one N i).map Vn))/\H' qt=some (.lst ((dvQ p m t ds one N i).map Vn))/\Ex4 λs5 s6 s7 s8=>σ=[some (.ref fa),some (.ref a),some (.ref b),some (.ref rs),some (.ref qt),s5,s6,s7,s8]) ⟨s4,(yaa hrg _) _ _ ers3,(yaa hrg _) _ _ eqt,none,none,none,none,rfl⟩ (λ_ _ _ _ _=>trivial) ?_ ?_
 ·rintro i z σ H5 H5' hi ⟨s5',er5,eq5,x5,x6,x7,x8,rfl⟩ ⟨rfl,rfl⟩;have hlen:=zch p m t ds one N i;have hlt:=yck (ds:=ds) (N:=N) G ho i;have hlN:ds.length<=one.length:=by lia
  have eat:(N:Int)-1-(i:Int)=((N-1-i:Nat):Int):=by lia
  obtain⟨at',hat⟩:∃a',N-1-i=a':=⟨_,rfl⟩
  refine⟨_,rfl,_,rfl,_,rfl,_,rfl,b,_,rfl,.inr (Same.tup s5' hb),_,_,rfl,rfl,_,_,rfl,rfl,rs,_,_,Vn ((dvI p m t ds one N i).getD (at'+ds.length-1) 0),rfl,rfl,SqL.of er5,?_,?_⟩
  ·rw[List.length_map,eat,hat,show((at':Nat):Int)+((ds.length:Nat):Int)-1=((at'+ds.length-1:Nat):Int) by lia];exact zaz (zar (by rw[hlen];lia))
  refine⟨_,rfl,_,rfl,b,_,_,Vn (ds.getD (ds.length-1) 0),rfl,rfl,Same.tup s5' hb,?_,?_⟩
  ·exact zgX (by rw[List.length_map];exact zar (by lia))
  refine⟨fa,p,m,t,_,_,rfl,Same.tup s5' hF,G,ybE G hlt _,hlast,ybE G hds _,?_⟩;have eF:mul p m t ((dvI p m t ds one N i).getD (at'+ds.length-1) 0) (pw p m t (ds.getD (ds.length-1) 0) (p^m-2))=dvF p m t ds (dvI p m t ds one N i) at':=rfl;rw[eF];dsimp only[zaj];refine⟨_,rfl,_,rfl,_,rfl,?_⟩;refine⟨qt,_,_,at',rfl,rfl,eq5,by rw[List.length_map,zeB,eat,hat];exact zd9 (by lia),?_⟩;rw[yeC];have eQ:(dvQ p m t ds one N i).set at' (dvF p m t ds (dvI p m t ds one N i) at')=dvQ p m t ds one N (i+1):=by rw[<-hat];exact zhx hi
  rw[eQ];have s6:=zaX (l:=qt) (o:=.lst ((dvQ p m t ds one N (i+1)).map Vn)) s5' nqt;have er6:upd H5' qt (.lst ((dvQ p m t ds one N (i+1)).map Vn)) rs=some (.lst ((dvI p m t ds one N i).map Vn)):=by rw[zad nqr];exact er5
  have eq6:upd H5' qt (.lst ((dvQ p m t ds one N (i+1)).map Vn)) qt=some (.lst ((dvQ p m t ds one N (i+1)).map Vn)):=zaa;generalize upd H5' qt (.lst ((dvQ p m t ds one N (i+1)).map Vn))=H6 at s6 er6 eq6 ⊢;have eI:dvI p m t ds one N (i+1)=dvJ p m t ds (dvI p m t ds one N i) at' (dvF p m t ds (dvI p m t ds one N i) at') ds.length:=by rw[<-hat];rfl
  have hclt:=yik G ds (dvI p m t ds one N i) at';rw[<-ygE p m t ds (dvI p m t ds one N i) at' (dvF p m t ds (dvI p m t ds one N i) at')]at er6;generalize dvF p m t ds (dvI p m t ds one N i) at'=cc at er6 eI hclt ⊢;rw[eI];generalize dvI p m t ds one N i=R at hlen hlt er6 ⊢;refine⟨_,rfl,true,b,rfl,⟨_,Same.tup s6 hb⟩,?_⟩
  let I5:Nat->St->Hp->Prop:=λj σ H'=>An4 (Same H H') (H' rs=some (.lst ((dvJ p m t ds R at' cc j).map Vn))) (H' qt=some (.lst ((dvQ p m t ds one N (i+1)).map Vn))) (Ex2 λs7 s8=>σ=[some (.ref fa),some (.ref a),some (.ref b),some (.ref rs),some (.ref qt),some (.int ((N:Int)-1-(i:Int))),some (Vn cc),s7,s8])
  refine yaG (zaV (b:=true) (xs:=ds.map Vn)) I5 ⟨s6,er6,eq6,_,_,rfl⟩ (λ_ _ _ _ h=>Same.tup h.1 hb) ?_ ?_
  ·rintro j z σ H7 H8 hj ⟨s7,er7,eq7,y7,y8,rfl⟩ ⟨T,u,rfl,eu,hT,rfl⟩;rw[List.length_map]at hj;rw[zar hj]at eu;cases eu;have sT:=s7.trans (yaa hT (.tup [.int (j:Int),Vn (ds.getD j 0)]));have er8:=(yaa hT (.tup [.int (j:Int),Vn (ds.getD j 0)])) _ _ er7;have eq8:=(yaa hT (.tup [.int (j:Int),Vn (ds.getD j 0)])) _ _ eq7;refine⟨T,_,rfl,SqT.of zaa,rfl,_,_,rfl,_,_,rfl,rfl,?_⟩;generalize upd H7 T (.tup [.int (j:Int),Vn (ds.getD j 0)])=H8 at sT er8 eq8 ⊢;have hF8:Fld K H8 fa p m t:=Same.tup sT hF;refine⟨_,rfl,_,rfl,_,rfl,_,rfl,_,_,rfl,rfl,rs,_,_,Vn (R.getD (at'+j) 0),rfl,rfl,SqL.of er8,?_,?_⟩
   ·rw[eat,hat,show((at':Nat):Int)+((j:Nat):Int)=((at'+j:Nat):Int) by lia];refine zaz ?_;rw[zar (by rw[zc5,hlen];lia),yeq (by rw[hlen];lia),if_neg (by lia)]
   refine⟨_,rfl,_,rfl,_,rfl,fa,p,m,t,cc,ds.getD j 0,rfl,hF8,hp,hm,G.hq,G.top,hclt,ybE G hds j,λr br h1=>?_⟩;cases zb1 hp hm br h1;refine⟨fa,p,m,t,_,_,rfl,hF8,hp,hp2,λr h2=>?_⟩;cases ye8 hp hm (ybE G hlt _) (yap hp hm _ _) h2;refine⟨_,rfl,_,rfl,_,rfl,_,_,rfl,rfl,?_⟩;refine⟨rs,_,_,at'+j,rfl,rfl,er8,?_,?_⟩
   ·rw[List.length_map,zc5,eat,hat,show((at':Nat):Int)+((j:Nat):Int)=((at'+j:Nat):Int) by lia];exact zd9 (by rw[hlen];lia)
   ·rw[yeC,yhe];exact⟨zaX sT nrs,zaa,by rw[zad (λe=>nqr e.symm)];exact eq8,_,_,rfl⟩
  ·rw[List.length_map];rintro σ H7 ⟨s7,er7,eq7,y7,y8,rfl⟩;exact⟨s7,er7,eq7,_,_,_,_,rfl⟩
 ·rintro σ H5 ⟨s5',er5,eq5,x5,x6,x7,x8,rfl⟩;refine⟨_,rfl,qt,dvQ p m t ds one N N,rfl,SqL.of eq5,by rw[zeB];lia,λq1 H6 s6 nq1 eq1=>?_⟩;refine⟨_,rfl,rs,dvI p m t ds one N N,rfl,SqL.of (s6 _ _ er5),by rw[zch];lia,λq2 H7 s7 nq2 eq2=>?_⟩;refine⟨szl 2,λr hr'=>?_⟩;have s8:=yaa hr' (.tup [.ref q1,.ref q2]);exact q r q1 q2 _ (s5'.trans (s6.trans (s7.trans s8))) zaa (s8 _ _ (s7 _ _ eq1)) (s8 _ _ eq2)
inductive zeF (K:PySem.W.Frag) (vs:List V) (H:Hp) (Q:VK) (E:XK):Prop
 |mk (wh fa mk gv:Addr) (p m t few root:Nat) (marks gs:List Nat) (c1:vs=[.ref wh,.ref gv]) (c2:WhAt H wh fa mk few root marks) (c3:Fld K H fa p m t) (c4:Good p m t) (c5:0<root) (c6:root<p^m) (c7:marks.length<=64) (c8:SqT K H gv (gs.map Vn)) (c9:gs.length<=64) (c10:(∀x∈gs,x<p^m)) (c11:∀r H',Same H H'->SqT K H' r ((mdL p m t root marks gs).map Vn)->Q (.ref r) H'):zeF K vs H Q E
theorem ybR:yad ["wheel","given","field","few","root","marks","bound","rest"] ["wheel","given"] (zac ye2):=⟨rfl,rfl,rfl,by decide +kernel,rfl,by decide +kernel,by decide +kernel⟩
theorem zhQ(B:Bl mg)(h_row_over:Has P w K mg base 6 "row_over" ["field","one","other"] (ydr K))(h_trimmed:Has P w K mg base 1 "trimmed" ["things"] (ydG K))(h_maker:Has P w K mg base 7 "maker" ["wheel"] (ydC K))(h_minus:Has P w K mg base 2 "minus" ["field","one","other"] (yb3 K))(h_widened:Has P w K mg base 1 "widened" ["row","many"] (yf5 K))(F:Fun K "made" "made" ye2 f fd):FnOk P w K mg base CX0 8 f fd ["wheel","given"] (zeF K):=by
 refine F.ok ybR (λvs H Q E h=>?_) (λcdv A outer s H vs Q E hr h=>?_)
 ·obtain⟨wh,fa,mk,gv,p,m,t,few,root,marks,gs,rfl,_⟩:=h;rfl
 obtain⟨wh,fa,mk,gv,p,m,t,few,root,marks,gs,rfl,hW,hF,G,h0,hq,hml,hgv,hgl,hgs,q⟩:=h;have hp:=G.hp;have hm:=G.hm;have hp2:=p_le hp hm G.hq;refine⟨_,(((pv 0)≈((2&&&ybR.nd)∩((3&&&ybR.nd)∩((4&&&ybR.nd)∩((5&&&ybR.nd)∩yav)))))<=<(6<|>ybR.nd<|>(yae>>>("len",PySem.boot_len,((pv 5)>=>zab))))<=<(7<|>ybR.nd<|>(zam<<<(h_row_over<$>((pv 2)>=>(h_trimmed<$>((zdA|||(ycT|||(@yaM _ _ _ _ _ (yab>=>zab))|||(pv 6))|||(pv 1))>=>zab))>=>(h_maker<$>((pv 0)>=>zab))>=>zab))<<<yab))<=<(~~~((zdA|||(yak<*("tuple",yai,((["thing"]⊆(["field"],[2],["wheel","given","field","few","root","marks","bound","rest"],ye2,(@zaO _ _ _ _ (h_widened<$>((pv 7)>=>(pv 6)>=>zab))),(0⊇["thing","field"]),zau,(h_minus<$>((pv 1)>=>yab>=>(pv 0)>=>zab))))>=>zab)))|||(pv 1))⁻¹))),?_⟩
 try dsimp only[cxOf]
 refine⟨_,rfl,wh,_,rfl,SqT.of hW.w,rfl,_,_,rfl,_,_,rfl,_,_,rfl,_,_,rfl,rfl,?_⟩;refine⟨_,rfl,mk,_,rfl,.inr (SqT.of hW.k),?_⟩;rw[List.length_map];dsimp only[zaj];refine⟨_,rfl,szl 1,λz hz=>?_⟩;have t1:=yaa hz (.tup [.int 0]);refine⟨_,rfl,ydt (SqT.of zaa) (by lia) λz2 H2 t2 hz2=>?_⟩;refine⟨_,rfl,ydp hz2 (Same.tup (t1.trans t2) hgv) (by rw[List.length_map,List.length_map,List.length_replicate];lia) λz3 H3 t3 hz3=>?_⟩;rw[<-List.map_append]at hz3;refine .inr ⟨z3,_,rfl,hz3,by rw[List.length_append,List.length_replicate];lia,λz4 H4 t4 hz4=>?_⟩;have s4:=(t1.trans t2).trans (t3.trans t4);refine⟨_,rfl,wh,fa,mk,p,m,t,few,root,marks,rfl,hW.same s4,Same.tup s4 hF,G,h0,hq,hml,λmr H5 t5 hmr=>?_⟩;have s5:=s4.trans t5;have hRl:(mdR p m t root marks gs).length<=marks.length+gs.length:=by
  have:=zeH (List.replicate marks.length 0++gs);rw[List.length_append,List.length_replicate]at this;exact this
 have hkl:=zaN p m t root marks;refine⟨fa,z4,mr,p,m,t,mdR p m t root marks gs,mkL p m t root marks,rfl,Same.tup s5 hF,G,Same.tup t5 hz4,hmr,by lia,by lia,by lia,by rw[hkl,Nat.add_sub_cancel,yb4 G];exact Nat.one_pos,ze0 G hgs,ybs G marks,λrr q1 q2 H6 t6 err eq1 eq2=>?_⟩;have s6:=s5.trans t6;refine⟨rr,_,_,.ref q2,rfl,rfl,SqT.of err,rfl,?_⟩;dsimp only[zaj];have htr:=ycu (root:=root) (marks:=marks) G hgs;have eL:mdL p m t root marks gs=((wid (trim (dvI p m t (mkL p m t root marks) (mdR p m t root marks gs) (mdN p m t root marks gs) (mdN p m t root marks gs))) marks.length).map (sub p m 0))++gs:=rfl;have hlt:∀x∈trim (dvI p m t (mkL p m t root marks) (mdR p m t root marks gs) (mdN p m t root marks gs) (mdN p m t root marks gs)),x<p^m:=λx hx=>yck G (ze0 G hgs) _ x (ycw _ _ hx)
 change H6 q2=some (.tup ((trim (dvI p m t (mkL p m t root marks) (mdR p m t root marks gs) (mdN p m t root marks gs) (mdN p m t root marks gs))).map Vn)) at eq2;rw[eL]at q;generalize trim (dvI p m t (mkL p m t root marks) (mdR p m t root marks gs) (mdN p m t root marks gs) (mdN p m t root marks gs))=R at htr hlt eq2 q;refine⟨_,rfl,_,rfl,q2,R,marks.length,rfl,SqT.of eq2,htr,by lia,λwl H7 t7 nwl ewl=>?_⟩;have s7:=s6.trans t7;have hwl:=zdI htr;have hwlt:=zg6 (n:=marks.length) (zae hp hm) hlt;refine⟨wl,rfl,⟨_,SqL.of ewl⟩,?_⟩;refine zan (yaH (xs:=(wid R marks.length).map Vn)) (λk acc H'=>H'=H7/\acc=(((wid R marks.length).take k).map (sub p m 0)).map Vn) ⟨rfl,rfl⟩ (λi acc H' _ h=>h.1 ▸ SqL.of ewl) ?_ ?_ ?_
 ·rintro k acc H' hk ⟨_,rfl⟩;rw[List.length_map,hwl]at hk;rw[List.length_map,List.length_map,List.length_take];exact zai (by lia)
 ·rintro k acc x H8 H8' hk ⟨rfl,rfl⟩ ⟨rfl,ez⟩;rw[List.length_map]at hk;rw[zar hk]at ez;cases ez;refine⟨_,rfl,_,rfl,fa,p,m,t,0,(wid R marks.length).getD k 0,rfl,Same.tup s7 hF,hp,hp2,λr h=>?_⟩;cases ye8 hp hm (zae hp hm) (zaG hwlt hk) h;refine⟨rfl,?_⟩;rw[zbK hk,List.map_append,List.map_append];rfl
 rw[List.length_map];rintro acc H8 ⟨rfl,rfl⟩ D hD;rw[List.take_length];have t8:=yaa hD (.lst (((wid R marks.length).map (sub p m 0)).map Vn));refine⟨D,_,rfl,.inl ⟨SqL.of zaa,λtp htp=>?_⟩⟩;have t9:=t8.trans (yaa htp (.tup (((wid R marks.length).map (sub p m 0)).map Vn)));refine⟨_,rfl,ydp (SqT.of zaa) (Same.tup (s7.trans t9) hgv) (by rw[List.length_map,List.length_map,hwl,List.length_map];lia) λr H9 t10 hr=>?_⟩;rw[<-List.map_append]at hr;exact q r H9 ((s7.trans t9).trans t10) hr
end
end My
end
section
namespace My
open PySem L2 Dg
def hor(p m t y:Nat):List Nat->List Nat
 | []=>[]
 |_::r=>val p m t y r::hor p m t y r
theorem zer(p m t y:Nat):∀(xs:List Nat) (i:Nat),(hor p m t y xs).getD i 0=val p m t y (xs.drop (i+1))
 | [],i=>by simp[hor,val]
 |a::r,0=>rfl
 |a::r,i+1=>zer p m t y r i
section
variable {p m t:Nat} (G:Good p m t)
include G
theorem zg7(y:Nat):∀(xs:List Nat),∀x∈hor p m t y xs,x<p^m
 | [],x,h=>nomatch h
 |a::r,x,h=>by
  rcases List.mem_cons.mp h with h|h
  ·rw[h];exact ybx G.hp G.hm _ _
  ·exact zg7 y r x h
theorem zdY{x y:Nat}(hx:x<p^m)(hy:y<p^m)(h:sub p m x y=0):x=y:=by
 have:=ybB G.hp G.hm (y:=y) hx;rw[h,zero_add G.hp G.hm hy]at this;exact this.symm
theorem zfw{y z:Nat}(hz:z<p^m):∀(xs:List Nat),(∀x∈xs,x<p^m)->val p m t z xs=add p m (mul p m t (sub p m z y) (val p m t z (hor p m t y xs))) (val p m t y xs)
 | [],_=>by
  show 0=add p m (mul p m t (sub p m z y) 0) 0;rw[mul_zero G.hp G.hm,add_zero G.hp G.hm (zae G.hp G.hm)]
 |a::r,h=>by
  have hp:=G.hp;have hm:=G.hm;have ih:=zfw hz r (λx hx=>h x (List.mem_cons_of_mem _ hx)) (y:=y);show add p m (mul p m t (val p m t z r) z) a=add p m (mul p m t (sub p m z y) (add p m (mul p m t (val p m t z (hor p m t y r)) z) (val p m t y r))) (add p m (mul p m t (val p m t y r) y) a);have e1:mul p m t (val p m t y r) z=add p m (mul p m t (sub p m z y) (val p m t y r)) (mul p m t (val p m t y r) y):=by
   rw[mul_comm hp hm (sub p m z y),<-mul_add hp hm,ybB hp hm hz]
  rw[<-add_assoc hp hm];refine congrArg (add p m · a) ?_;rw[ih,add_mul hp hm,e1,mul_add hp hm,add_assoc hp hm,mul_assoc hp hm]
theorem zeb:∀(pts:List Nat) (xs:List Nat),pts.Nodup->(∀y∈pts,y<p^m)->(∀x∈xs,x<p^m)->(∀i,pts.length<=i->xs.getD i 0=0)->(∀y∈pts,val p m t y xs=0)->∀i,xs.getD i 0=0
 | [],xs,_,_,_,h,_=>λi=>h i (Nat.zero_le _)
 |y::pts,xs,hn,hy,hx,h,hv=>by
  have hp:=G.hp;have hm:=G.hm;have vz:∀(k:Nat),(∀i,k<=i->xs.getD i 0=0)->val p m t y (xs.drop k)=0:=λk hk=>by
   have e:xs.drop k=List.replicate (xs.drop k).length 0:=by
    refine List.eq_replicate_iff.mpr ⟨rfl,λb hb=>?_⟩;obtain⟨i,hi,rfl⟩:=List.mem_iff_getElem.mp hb;rw[List.getElem_drop];have:=hk (k+i) (by lia);rw[List.length_drop]at hi;rw[List.getD_eq_getElem?_getD,List.getElem?_eq_getElem (by lia)]at this;exact this
   rw[e];generalize (xs.drop k).length=n
   induction n with
   |zero=>rfl
   |succ n ih=>
    show add p m (mul p m t (val p m t y (List.replicate n 0)) y) 0=0;rw[ih,zero_mul hp hm,add_zero hp hm (zae hp hm)]
  have hes:∀i,(hor p m t y xs).getD i 0=0:=by
   refine zeb pts (hor p m t y xs) (List.nodup_cons.mp hn).2 (λz hz=>hy z (List.mem_cons_of_mem _ hz)) (zg7 G y xs) (λi hi=>?_) (λz hz=>?_)
   ·rw[zer];exact vz (i+1) λj hj=>h j (by simp;lia)
   ·have e:=zfw G (y:=y) (hy z (List.mem_cons_of_mem _ hz)) xs hx;rw[hv z (List.mem_cons_of_mem _ hz),hv y List.mem_cons_self,add_zero hp hm (yap hp hm _ _)]at e;rcases Nat.eq_zero_or_pos (val p m t z (hor p m t y xs)) with c|c
    ·exact c
    ·have hne:0<sub p m z y:=by
      rcases Nat.eq_zero_or_pos (sub p m z y) with d|d
      ·have:=zdY G (hy z (List.mem_cons_of_mem _ hz)) (hy y List.mem_cons_self) d;exact absurd (this ▸ hz) (List.nodup_cons.mp hn).1
      ·exact d
     have:=G.noz hne (zby hp hm _ _) c (ybx hp hm _ _)
     lia
  have hd:∀i,val p m t y (xs.drop i)=0
   |0=>by rw[List.drop_zero];exact hv y List.mem_cons_self
   |i+1=>by rw[<-zer];exact hes i
  intro i;by_cases c:i<xs.length
  ·have e:=hd i;rw[List.drop_eq_getElem_cons c]at e;change add p m (mul p m t (val p m t y (xs.drop (i+1))) y) xs[i]=0 at e;rw[hd (i+1),zero_mul hp hm,zero_add hp hm (hx _ (List.getElem_mem c))]at e;rw[List.getD_eq_getElem?_getD,List.getElem?_eq_getElem c];exact e
  ·exact yas (by lia)
theorem zf9{pts u v:List Nat}(hn:pts.Nodup)(hy:∀y∈pts,y<p^m)(hl:u.length=v.length)(hu:∀x∈u,x<p^m)(hv:∀x∈v,x<p^m)(hd:u.drop pts.length=v.drop pts.length)(h:∀y∈pts,val p m t y u=val p m t y v):u=v:=by
 have hp:=G.hp;have hm:=G.hm;have lp:(yat p m t (p-1) v).length=v.length:=by simp[yat]
 have gp:∀i,(yat p m t (p-1) v).getD i 0=mul p m t (p-1) (v.getD i 0):=λi=>by
  by_cases c:i<v.length
  ·exact rget c
  ·rw[yas (xs:=v) (by lia),yas (by rw[lp];lia),mul_zero hp hm]
 have gd:∀i,i<u.length->(addL p m u (yat p m t (p-1) v)).getD i 0=sub p m (u.getD i 0) (v.getD i 0):=λi hi=>by
  have:(addL p m u (yat p m t (p-1) v)).getD i 0=add p m (u.getD i 0) ((yat p m t (p-1) v).getD i 0):=rget (by rw[lp,hl,Nat.min_self];lia);rw[this,gp,ydU hp hm (ybE G hu i) (ybE G hv i)]
 have la:=zb8 (p:=p) (m:=m) (n:=u.length) (ys:=yat p m t (p-1) v) rfl (by rw[lp,hl]);have z:=zeb G pts (addL p m u (yat p m t (p-1) v)) hn hy (zeh G _ _) (λi hi=>by
  by_cases c:i<u.length
  ·rw[gd i c];have e:u.getD i 0=v.getD i 0:=by
    have h1:=congrArg (λl=>l.getD (i-pts.length) 0) hd;rw[List.getD_eq_getElem?_getD,List.getElem?_drop,List.getD_eq_getElem?_getD,List.getElem?_drop,show pts.length+(i-pts.length)=i by lia]at h1;rw[List.getD_eq_getElem?_getD,List.getD_eq_getElem?_getD];exact h1
   rw[e];exact zb3 G (ybE G hv i)
  ·exact yas (by rw[la];lia)) (λy hy'=>by
  rw[zdw G (hy y hy') rfl (by rw[lp,hl]) hu (zbZ G _ _),zcK G (hy y hy') hv,h y hy',ydU hp hm (ybx hp hm _ _) (ybx hp hm _ _)];exact zb3 G (ybx hp hm _ _))
 refine List.ext_getElem hl λi h1 h2=>?_
 have e:=z i;rw[gd i h1]at e;have:=zdY G (ybE G hu i) (ybE G hv i) e;rw[List.getD_eq_getElem?_getD,List.getElem?_eq_getElem h1,List.getD_eq_getElem?_getD,List.getElem?_eq_getElem h2]at this;exact this
theorem zeC(y:Nat)(xs ys:List Nat)(hx:∀x∈xs,x<p^m)(hy:y<p^m):val p m t y (xs++ys)=add p m (mul p m t (val p m t y ys) (pw p m t y xs.length)) (val p m t y xs):=by
 have hp:=G.hp;have hm:=G.hm
 induction xs with
 |nil=>
  show val p m t y ys=add p m (mul p m t (val p m t y ys) 1) 0;rw[mul_one hp hm (ybx hp hm _ _),add_zero hp hm (ybx hp hm _ _)]
 |cons a r ih=>
  show add p m (mul p m t (val p m t y (r++ys)) y) a=add p m (mul p m t (val p m t y ys) (pw p m t y (r.length+1))) (add p m (mul p m t (val p m t y r) y) a);rw[ih (λx h=>hx x (List.mem_cons_of_mem _ h)),add_mul hp hm,<-add_assoc hp hm,mul_assoc hp hm,ya1 hp hm,yb2 hp hm hy]
theorem ydw(y:Nat):∀l:List Nat,(∀x∈l,x<p^m)->val p m t y (trim l)=val p m t y l
 | [],_=>rfl
 |x::xs,h=>by
  have hp:=G.hp;have hm:=G.hm;have ih:=ydw y xs λz hz=>h z (List.mem_cons_of_mem _ hz)
  cases e:trim xs with
  |nil=>
   have e2:trim (x::xs)=if x=0 then [] else [x]:=by show(match trim xs with | []=>_|r=>_)=_;rw[e]
   rw[e]at ih;have h0:val p m t y xs=0:=ih.symm;rw[e2];show _=add p m (mul p m t (val p m t y xs) y) x;rw[h0,zero_mul hp hm,zero_add hp hm (h x List.mem_cons_self)];by_cases c:x=0
   ·rw[if_pos c,c];rfl
   ·rw[if_neg c];show add p m (mul p m t 0 y) x=x;rw[zero_mul hp hm,zero_add hp hm (h x List.mem_cons_self)]
  |cons z r=>
   have e2:trim (x::xs)=x::z::r:=by show(match trim xs with | []=>_|r=>_)=_;rw[e]
   rw[e]at ih;rw[e2];show add p m (mul p m t (val p m t y (z::r)) y) x=add p m (mul p m t (val p m t y xs) y) x;rw[ih]
theorem yc2(y:Nat):∀n,val p m t y (List.replicate n 0)=0
 |0=>rfl
 |n+1=>by
  show add p m (mul p m t (val p m t y (List.replicate n 0)) y) 0=0;rw[yc2 y n,zero_mul G.hp G.hm,add_zero G.hp G.hm (zae G.hp G.hm)]
theorem zhm{y:Nat}(hy:y<p^m)(xs:List Nat)(n:Nat)(hx:∀x∈xs,x<p^m):val p m t y (wid xs n)=val p m t y xs:=by
 unfold wid;rw[zeC G y _ _ hx hy,yc2 G,zero_mul G.hp G.hm,zero_add G.hp G.hm (ybx G.hp G.hm _ _)]
theorem yiS(a b c d:Nat):add p m (add p m a b) (add p m c d)=add p m (add p m a c) (add p m b d):=by
 have hp:=G.hp;have hm:=G.hm;rw[add_assoc hp hm,<-add_assoc hp hm b,add_comm hp hm b c,add_assoc hp hm c,<-add_assoc hp hm]
theorem yhi{y:Nat}(hy:y<p^m)(xs:List Nat)(hx:∀x∈xs,x<p^m):add p m (val p m t y (xs.map (sub p m 0))) (val p m t y xs)=0:=by
 have hp:=G.hp;have hm:=G.hm
 induction xs with
 |nil=>exact add_zero hp hm (zae hp hm)
 |cons a r ih=>
  have ih:=ih λx h=>hx x (List.mem_cons_of_mem _ h)
  show add p m (add p m (mul p m t (val p m t y (r.map (sub p m 0))) y) (sub p m 0 a)) (add p m (mul p m t (val p m t y r) y) a)=0;rw[yiS G,<-add_mul hp hm,ih,zero_mul hp hm,ybB hp hm (zae hp hm),add_zero hp hm (zae hp hm)]
theorem yec{f:Nat->Nat}{k:Nat}(h:∀i,i<k->f i=0):∀d,sumF p m (k+d) f=sumF p m d λi=>f (k+i)
 |0=>by
  have e:=yaj G.hp G.hm (f:=f) (g:=λ_=>0) k λi hi=>h i hi
  rw[Nat.add_zero,e];have:=zaZ G.hp G.hm (λ_=>0) 0 k (λ_ _ _=>rfl);rw[Nat.zero_add]at this;exact this
 |d+1=>by
  show add p m (sumF p m (k+d) f) (f (k+d))=add p m (sumF p m d λi=>f (k+i)) (f (k+d));rw[yec h d]
theorem yhK{y a c:Nat}{ds rest:List Nat}(hy:y<p^m)(hds:∀x∈ds,x<p^m)(hr:∀x∈rest,x<p^m)(hl:a+ds.length<=rest.length)(h0:val p m t y ds=0):val p m t y (dvJ p m t ds rest a c ds.length)=val p m t y rest:=by
 have hp:=G.hp;have hm:=G.hm;have hw:sumF p m rest.length (λi=>if a<=i/\i<a+ds.length then mul p m t (mul p m t c (ds.getD (i-a) 0)) (pw p m t y i) else 0)=0:=by
  have e:=zaZ hp hm (λi=>if a<=i/\i<a+ds.length then mul p m t (mul p m t c (ds.getD (i-a) 0)) (pw p m t y i) else 0) (a+ds.length) (rest.length-(a+ds.length)) (λi h1 h2=>if_neg (by lia));rw[show a+ds.length+(rest.length-(a+ds.length))=rest.length by lia]at e;rw[e,yec G (λi hi=>if_neg (by lia))];have e2:sumF p m ds.length (λi=>if a<=a+i/\a+i<a+ds.length then mul p m t (mul p m t c (ds.getD (a+i-a) 0)) (pw p m t y (a+i)) else 0)=sumF p m ds.length λi=>mul p m t (mul p m t (ds.getD i 0) (pw p m t y i)) (mul p m t c (pw p m t y a)):=by
   refine yaj hp hm _ λi hi=>?_
   rw[if_pos (by lia),Nat.add_sub_cancel_left,ya1 hp hm,mul_comm hp hm c,mul_assoc hp hm,mul_assoc hp hm];refine congrArg (mul p m t (ds.getD i 0)) ?_;rw[<-mul_assoc hp hm,mul_comm hp hm]
  rw[e2,zbv hp hm,<-yaO hp hm hy ds hds,h0,zero_mul hp hm]
 rw[yaO hp hm hy _ (yg3 G hr),yaO hp hm hy _ hr,zc5];have e3:=ycH hp hm rest.length (λi=>mul p m t ((dvJ p m t ds rest a c ds.length).getD i 0) (pw p m t y i)) (λi=>if a<=i/\i<a+ds.length then mul p m t (mul p m t c (ds.getD (i-a) 0)) (pw p m t y i) else 0);rw[hw,add_zero hp hm (yeW hp hm _ _)]at e3;rw[<-e3];refine yaj hp hm _ λi hi=>?_
 rw[yeq hi];by_cases c1:a<=i/\i<a+ds.length
 ·rw[if_pos c1,if_pos c1,<-add_mul hp hm,ybB hp hm (ybE G hr i)]
 ·rw[if_neg c1,if_neg c1,add_zero hp hm (yap hp hm _ _)]
theorem yfL{y:Nat}{ds one:List Nat}{N:Nat}(hN:N=one.length+1-ds.length)(hy:y<p^m)(hds:∀x∈ds,x<p^m)(ho:∀x∈one,x<p^m)(h0:val p m t y ds=0)(hd:0<ds.length):∀i,i<=N->val p m t y (dvI p m t ds one N i)=val p m t y one
 |0,_=>rfl
 |i+1,hi=>by
  show val p m t y (dvJ p m t ds (dvI p m t ds one N i) (N-1-i) (dvF p m t ds (dvI p m t ds one N i) (N-1-i)) ds.length)=_;rw[yhK G hy hds (yck G ho i) (by rw[zch];lia) h0];exact yfL hN hy hds ho h0 hd i (by lia)
theorem ydA{root k:Nat}{marks gs:List Nat}(hg:∀x∈gs,x<p^m)(hk:k∈marks):val p m t (pw p m t root k) (mdL p m t root marks gs)=0:=by
 have hp:=G.hp;have hm:=G.hm;have hy:=yaw hp hm (t:=t) root k;have hz:=yb9 G (root:=root) hk;have hR:=ze0 (root:=root) (marks:=marks) G hg;have e1:val p m t (pw p m t root k) (trim (dvI p m t (mkL p m t root marks) (mdR p m t root marks gs) (mdN p m t root marks gs) (mdN p m t root marks gs)))=val p m t (pw p m t root k) (List.replicate marks.length 0++gs):=by
  rw[ydw G _ _ (yck G hR _),yfL G (N:=mdN p m t root marks gs) rfl hy (ybs G marks) hR hz (by rw[zaN];lia) _ (Nat.le_refl _)];unfold mdR;refine ydw G _ _ λx hx=>?_
  rcases List.mem_append.mp hx with c|c
  ·rw[List.eq_of_mem_replicate c];exact zae hp hm
  ·exact hg x c
 have hlt:∀x∈trim (dvI p m t (mkL p m t root marks) (mdR p m t root marks gs) (mdN p m t root marks gs) (mdN p m t root marks gs)),x<p^m:=λx hx=>yck G hR _ x (ycw _ _ hx)
 have hwl:=zdI (ycu (root:=root) (marks:=marks) G hg);unfold mdL;rw[zeC G _ _ _ (λx hx=>by obtain⟨z,_,rfl⟩:=List.mem_map.mp hx;exact zby hp hm _ _) hy,List.length_map,hwl];have e2:=yhi G hy (wid (trim (dvI p m t (mkL p m t root marks) (mdR p m t root marks gs) (mdN p m t root marks gs) (mdN p m t root marks gs))) marks.length) (zg6 (zae hp hm) hlt);rw[zhm G hy _ _ hlt,e1,zeC G _ _ _ (λx hx=>by rw[List.eq_of_mem_replicate hx];exact zae hp hm) hy,yc2 G,List.length_replicate,add_zero hp hm (yap hp hm _ _),add_comm hp hm]at e2;exact e2
theorem yeY{y few:Nat}(hy:y<p^m):∀xs:List Nat,(∀x∈xs,x<p^m)->val p m t (pw p m t y (p^few)) (xs.map λx=>pw p m t x (p^few))=pw p m t (val p m t y xs) (p^few)
 | [],_=>by
  show 0=pw p m t 0 (p^few);have:0<p^few:=Nat.pow_pos (by have:=G.hp;lia);rw[show p^few=(p^few-1)+1 by lia,yby G.hp G.hm]
 |a::r,h=>by
  have hp:=G.hp;have hm:=G.hm;show add p m (mul p m t (val p m t (pw p m t y (p^few)) (r.map λx=>pw p m t x (p^few))) (pw p m t y (p^few))) (pw p m t a (p^few))=pw p m t (add p m (mul p m t (val p m t y r) y) a) (p^few);rw[yeY hy r (λx hx=>h x (List.mem_cons_of_mem _ hx)),<-yde hp hm,G.frobN few (yap hp hm _ _) (h a List.mem_cons_self)]
theorem zfG{few root n k:Nat}{marks:List Nat}(W:Whl p m t few root n marks)(hk:k∈marks):∃k'∈marks,pw p m t (pw p m t root k') (p^few)=pw p m t root k:=by
 have hp:=G.hp;have hm:=G.hm;have hn:=W.ord.pos;have he:=W.ord.round G W.r0 W.rq W.fewm W.few1;have he1:1<=m/few:=Nat.div_pos (Nat.le_of_dvd (by lia) (Nat.dvd_of_mod_eq_zero W.fewm)) W.few1;have it:∀j,k*(p^few)^j%n∈marks:=λj=>by
  induction j with
  |zero=>rw[Nat.pow_zero,Nat.mul_one,Nat.mod_eq_of_lt (W.lt k hk)];exact hk
  |succ j ih=>
   have:=W.closed _ ih;rw[Nat.mod_mul_mod,Nat.mul_assoc,<-Nat.pow_succ]at this;exact this
 have pm:∀a,pw p m t root (a%n)=pw p m t root a:=λa=>by
  conv=>rhs;rw[<-Nat.div_add_mod a n,ya1 hp hm,yaF hp hm,W.ord.one,ybO hp hm,one_mul hp hm (yaw hp hm _ _)]
 refine⟨_,it (m/few-1),?_⟩;rw[pm,<-yaF hp hm,Nat.mul_assoc,<-Nat.pow_succ,show(m/few-1).succ=m/few by lia,<-pm,Nat.mul_mod,he,<-Nat.mul_mod,Nat.mul_one,pm]
theorem yh1{root n:Nat}{marks:List Nat}(r0:0<root)(hr:root<p^m)(o:Ord p m t root n)(hasc:marks.Pairwise (· < ·))(hl:∀x∈marks,x<n):(marks.map λk=>pw p m t root k).Nodup:=by
 rw[List.Nodup,List.pairwise_map];refine List.Pairwise.imp_of_mem (λ{a b} ha hb h e=>?_) hasc;have:=zcH G r0 hr o (hl a ha) (hl b hb) e
 lia
theorem zb6{few root n:Nat}{marks u v:List Nat}(W:Whl p m t few root n marks)(hl:u.length=v.length)(hu:∀x∈u,x<p^m)(hv:∀x∈v,x<p^m)(hd:u.drop marks.length=v.drop marks.length)(zu:∀k∈marks,val p m t (pw p m t root k) u=0)(zv:∀k∈marks,val p m t (pw p m t root k) v=0):u=v:=by
 refine zf9 G (pts:=marks.map λk=>pw p m t root k) (yh1 G W.r0 W.rq W.ord W.asc W.lt) (λy hy=>?_) hl hu hv (by rw[List.length_map];exact hd) (λy hy=>?_)
 ·obtain⟨k,_,rfl⟩:=List.mem_map.mp hy;exact yaw G.hp G.hm _ _
 ·obtain⟨k,hk,rfl⟩:=List.mem_map.mp hy;rw[zu k hk,zv k hk]
theorem zfY{few root n:Nat}{marks u:List Nat}(W:Whl p m t few root n marks)(hu:∀x∈u,x<p^m)(zu:∀k∈marks,val p m t (pw p m t root k) u=0)(hd:∀x∈u.drop marks.length,pw p m t x (p^few)=x):∀x∈u,pw p m t x (p^few)=x:=by
 have hp:=G.hp;have hm:=G.hm;have e:(u.map λx=>pw p m t x (p^few))=u:=by
  refine zb6 G W (by rw[List.length_map]) (λx hx=>by obtain⟨y,_,rfl⟩:=List.mem_map.mp hx;exact yaw hp hm _ _) hu ?_ (λk hk=>?_) zu
  ·rw[<-List.map_drop]
   conv=>rhs;rw[<-List.map_id (u.drop marks.length)]
   exact List.map_congr_left λx hx=>hd x hx
  ·obtain⟨k',hk',e'⟩:=zfG G W hk;rw[<-e',yeY G (yaw hp hm _ _) u hu,zu k' hk'];have:0<p^few:=Nat.pow_pos (by lia);rw[show p^few=(p^few-1)+1 by lia,yby hp hm]
 intro x hx;obtain⟨i,hi,rfl⟩:=List.mem_iff_getElem.mp hx;have:=congrArg (λl=>l[i]?) e;rw[List.getElem?_map,List.getElem?_eq_getElem hi]at this;exact Option.some.inj this
omit G in
theorem ydv{p m t root:Nat}{marks gs:List Nat}(G:Good p m t)(hg:∀x∈gs,x<p^m):(mdL p m t root marks gs).drop marks.length=gs:=by
 have hwl:=zdI (ycu (root:=root) (marks:=marks) G hg);unfold mdL;rw[List.drop_append_of_le_length (by rw[List.length_map,hwl];exact Nat.le_refl _)];rw[List.drop_eq_nil_of_le (by rw[List.length_map,hwl];exact Nat.le_refl _),List.nil_append]
theorem ydq{few root n:Nat}{marks u:List Nat}(W:Whl p m t few root n marks)(hl:u.length=n)(hml:marks.length<=n)(hu:∀x∈u,x<p^m)(zu:∀k∈marks,val p m t (pw p m t root k) u=0):mdL p m t root marks (u.drop marks.length)=u:=by
 have hg:∀x∈u.drop marks.length,x<p^m:=λx hx=>hu x (List.mem_of_mem_drop hx)
 refine zb6 G W (by rw[ycd G hg,List.length_drop];lia) (yd9 G hg) hu (ydv G hg) (λk hk=>ydA G hg hk) zu
end
end My
end
section
namespace My
open PySem L2 Dg
noncomputable def sums(p m:Nat)(xs ys:List Nat):List Nat:=(List.range (min xs.length ys.length)).map λi=>add p m (xs.getD i 0) (ys.getD i 0)
section
variable {p m t:Nat} (G:Good p m t)
include G
theorem ya2{x:Nat}(hx:x<p^m):x∈lets p m t few↔pw p m t x (p^few)=x:=by
 unfold lets;rw[List.mem_filter,List.mem_range,decide_eq_true_iff];exact⟨λh=>h.2,λh=>⟨hx,h⟩⟩
theorem zep{few:Nat}(hf:m%few=0)(hf1:1<=few):(lets p m t few).length=p^few:=by
 refine Nat.le_antisymm (zge G hf hf1) ?_;have hp:=G.hp;have hm:=G.hm;obtain⟨b,Pb⟩:=G.prim;have hq2:2<=p^few:=Nat.le_trans hp (Nat.le_self_pow (by lia) p);obtain⟨kk,hkk⟩:p^few-1 ∣ p^m-1:=by
  have:=zcB (p^few) (m/few);rw[<-Nat.pow_mul,Nat.mul_div_cancel' (Nat.dvd_of_mod_eq_zero hf)]at this;exact this
 have h1:=zap hp hm;have hk0:0<kk:=by
  rcases Nat.eq_zero_or_pos kk with h|h
  ·rw[h,Nat.mul_zero]at hkk;lia
  ·exact h
 have hlt:∀j,j<p^few-1->kk*j<p^m-1:=λj hj=>by
  rw[hkk,Nat.mul_comm (p^few-1)];exact Nat.mul_lt_mul_of_pos_left hj hk0
 have hnd:(0::(List.range (p^few-1)).map λj=>pw p m t b (kk*j)).Nodup:=by
  rw[List.nodup_cons];refine⟨λh=>?_,ya0 _ λi j hi hj e=>?_⟩
  ·obtain⟨j,_,e⟩:=List.mem_map.mp h;have:=G.pw_pos Pb.pos Pb.lt (kk*j)
   lia
  ·have:=G.inj Pb _ _ (hlt i hi) (hlt j hj) e;exact Nat.eq_of_mul_eq_mul_left hk0 this
 have:=yeh hnd (l':=lets p m t few) λx hx=>by
  rcases List.mem_cons.mp hx with h|h
  ·rw[h,ya2 G (by lia),show p^few=(p^few-1)+1 by lia,yby hp hm]
  ·obtain⟨j,hj,rfl⟩:=List.mem_map.mp h;rw[ya2 G (yaw hp hm _ _),<-yaF hp hm,<-G.pw_mod Pb.pos Pb.lt,show kk*j*p^few=kk*j+(p^m-1)*j from ?_,Nat.add_mul_mod_self_left,G.pw_mod Pb.pos Pb.lt];rw[hkk];obtain⟨q,hq⟩:∃q,p^few=q+1:=⟨p^few-1,by lia⟩
   rw[hq,Nat.add_sub_cancel,Nat.mul_add,Nat.mul_one,Nat.add_comm,Nat.mul_right_comm,Nat.mul_comm kk q]
 simp only[List.length_cons,List.length_map,List.length_range]at this
 lia
end
noncomputable def Rws(K:PySem.W.Frag)(H:Hp):List Addr->List (List Nat)->Prop
 | [],[]=>True
 |d::ds,r::rs=>SqT K H d (r.map Vn)/\Rws K H ds rs
 |_,_=>False
section
variable {H H':Hp}
theorem Rws.same(s:Same H H'):∀ {ds:List Addr} {rs:List (List Nat)},Rws K H ds rs->Rws K H' ds rs
 | [],[],_=>trivial
 |_::_,_::_,h=>⟨Same.tup s h.1,Rws.same s h.2⟩
 | [],_::_,h=>h.elim
 |_::_,[],h=>h.elim
theorem Rws.len:∀ {ds:List Addr} {rs:List (List Nat)},Rws K H ds rs->ds.length=rs.length
 | [],[],_=>rfl
 |_::_,_::_,h=>by rw[List.length_cons,List.length_cons,Rws.len h.2]
 | [],_::_,h=>h.elim
 |_::_,[],h=>h.elim
theorem Rws.app:∀ {ds es:List Addr} {rs qs:List (List Nat)},Rws K H ds rs->Rws K H es qs->Rws K H (ds++es) (rs++qs)
 | [],_,[],_,_,h=>h
 |_::_,_,_::_,_,h,g=>⟨h.1,Rws.app h.2 g⟩
 | [],_,_::_,_,h,_=>h.elim
 |_::_,_,[],_,h,_=>h.elim
theorem Rws.get:∀ {ds:List Addr} {rs:List (List Nat)} {i:Nat},Rws K H ds rs->i<rs.length->∃d,ds[i]?=some d/\SqT K H d ((rs.getD i []).map Vn)
 | [],[],_,_,hi=>absurd hi (Nat.not_lt_zero _)
 |d::_,_::_,0,h,_=>⟨d,rfl,h.1⟩
 |_::_,_::_,i+1,h,hi=>Rws.get (i:=i) h.2 (Nat.lt_of_succ_lt_succ hi)
 | [],_::_,_,h,_=>h.elim
 |_::_,[],_,h,_=>h.elim
theorem Rws.mem:∀ {ds:List Addr} {rs:List (List Nat)} {d:Addr},Rws K H ds rs->d∈ds->∃r∈rs,SqT K H d (r.map Vn)
 | [],[],_,_,hd=>nomatch hd
 |e::ds,r::rs,d,h,hd=>by
  rcases List.mem_cons.mp hd with rfl|hd
  ·exact⟨r,List.mem_cons_self ..,h.1⟩
  ·obtain⟨q,hq,e⟩:=Rws.mem h.2 hd;exact⟨q,List.mem_cons_of_mem _ hq,e⟩
 | [],_::_,_,h,_=>h.elim
 |_::_,[],_,h,_=>h.elim
theorem Rws.perm(p:es.Perm ds):∀ {rs:List (List Nat)},Rws K H ds rs->∃qs:List (List Nat),qs.Perm rs/\Rws K H es qs:=by
 induction p with
 |nil=>exactλh=>⟨_,.refl _,h⟩
 |cons x _ ih=>
  intro rs h;cases rs with
  |nil=>exact h.elim
  |cons r rs=>
   obtain⟨qs,h1,h2⟩:=ih h.2;exact⟨r::qs,h1.cons _,h.1,h2⟩
 |swap x y l=>
  intro rs h;rcases rs with _ |⟨r,_ |⟨u,rs⟩⟩
  ·exact h.elim
  ·exact h.2.elim
  ·exact⟨u::r::rs,.swap ..,h.2.1,h.1,h.2.2⟩
 |trans _ _ ih1 ih2=>
  intro rs h;obtain⟨qs,h1,h2⟩:=ih2 h;obtain⟨us,h3,h4⟩:=ih1 h2;exact⟨us,h3.trans h1,h4⟩
end
theorem ya3{α:Type}{l:List α}{i:Nat}{d:α}(h:i<l.length):l.take (i+1)=l.take i++[l.getD i d]:=by
 rw[List.take_succ_eq_append_getElem h];simp[List.getD,h]
def unG(fr k:Nat):List Nat:=List.replicate k 0++[1]++List.replicate (fr-k-1) 0
noncomputable def mulR(p m t root:Nat)(marks:List Nat)(few fr k:Nat):List (List Nat):=(lets p m t few).map λc=>yat p m t c (mdL p m t root marks (unG fr k))
noncomputable def wdL(p m t root:Nat)(marks:List Nat)(few fr:Nat):Nat->List (List Nat)
 |0=>[mdL p m t root marks (List.replicate fr 0)]
 |k+1=>(wdL p m t root marks few fr k).flatMap λu=>(mulR p m t root marks few fr k).map (sums p m u)
theorem yc1(p m t root:Nat)(marks:List Nat)(few fr:Nat):∀k,(wdL p m t root marks few fr k).length=(lets p m t few).length^k
 |0=>rfl
 |k+1=>by
  show(List.flatMap _ _).length=_;rw[List.length_flatMap,show(List.map (λu=>((mulR p m t root marks few fr k).map (sums p m u)).length) (wdL p m t root marks few fr k))=(wdL p m t root marks few fr k).map λ_=>(lets p m t few).length from List.map_congr_left λ_ _=>by rw[List.length_map];exact List.length_map _];rw[List.map_const',List.sum_replicate_nat,yc1 p m t root marks few fr k,Nat.pow_succ]
theorem zdu{fr k:Nat}(h:k<fr):(unG fr k).length=fr:=by
 unfold unG;rw[List.length_append,List.length_append,List.length_replicate,List.length_replicate,List.length_singleton];lia
theorem ygO(p m:Nat)(xs ys:List Nat):(sums p m xs ys).length=min xs.length ys.length:=by unfold sums;rw[List.length_map,List.length_range]
theorem ybv(p m t c:Nat)(xs:List Nat):(yat p m t c xs).length=xs.length:=by unfold yat;rw[List.length_map,List.length_range]
section
variable {p m t:Nat} (G:Good p m t)
include G
theorem zck{fr k:Nat}:∀x∈unG fr k,x<p^m:=λx hx=>by
 have:=zap G.hp G.hm;unfold unG at hx;simp only[List.mem_append,List.mem_replicate,List.mem_singleton]at hx
 lia
theorem zhO{xs ys:List Nat}:∀x∈sums p m xs ys,x<p^m:=λx hx=>by
 obtain⟨i,_,rfl⟩:=List.mem_map.mp hx;exact ya8 G.hp G.hm _ _
end
section
variable {P:Program} {w:World} {mg:Str->Option Value} {base:Heap} {f:Addr} {fd:FuncData} {Re By Nr Tm Nt Nl:Addr}
inductive yce (K:PySem.W.Frag) (vs:List V) (H:Hp) (Q:VK) (E:XK):Prop
 |mk (a:Addr) (p m t few:Nat) (c1:vs=[.ref a,Vn few]) (c2:Fld K H a p m t) (c3:Good p m t) (c4:few<=6) (c5:∀r H',Same H H'->H r=none->H' r=some (.tup ((lets p m t few).map Vn))->Q (.ref r) H'):yce K vs H Q E
theorem ydf:yad ["field","few","q"] ["field","few"] (zac yb8):=⟨rfl,rfl,rfl,by decide +kernel,rfl,by decide +kernel,by decide +kernel⟩
theorem zfn(B:Bl mg)(h_number_power:Has P w K mg base 1 "number_power" ["base","many"] zah)(h_power:Has P w K mg base 5 "power" ["field","one","many"] (ycq K))(h_many_things:Has P w K mg base 2 "many_things" ["field"] (ycE K))(F:Fun K "letters" "letters" yb8 f fd):FnOk P w K mg base CX0 6 f fd ["field","few"] (yce K):=by
 refine F.ok ydf (λvs H Q E h=>?_) (λcdv A outer s H vs Q E hr h=>?_)
 ·obtain⟨a,p,m,t,few,rfl,_⟩:=h;rfl
 obtain⟨a,p,m,t,few,rfl,hF,G,hf,q⟩:=h;have hp:=G.hp;have hm:=G.hm;have hQ:=G.hq;have hp2:=p_le hp hm hQ;have hm6:=m_le hp hQ;refine⟨_,((2<|>ydf.nd<|>(h_number_power<$>((zam<<<(pv 0)<<<yab)>=>(pv 1)>=>zab)))<=<(~~~((yak<*("tuple",yai,((["one"]⊆(["field","q"],[0,2],["field","few","q"],yb8,(↑((h_many_things<$>((pv 0)>=>zab))>=>zab)),(0⊇["one","field","q"]),(@ycr _ _ _ (zbN∪(h_power<$>((pv 1)>=>(pv 0)>=>(pv 2)>=>zab))∪(pv 0))),(pv 0)))>=>zab)))⁻¹))),?_⟩
 try dsimp only[cxOf]
 refine⟨_,rfl,a,_,_,_,rfl,rfl,hF,rfl,_,rfl,p,few,rfl,hp2,by lia,?_⟩;dsimp only[zaj];refine⟨_,rfl,a,p,m,t,rfl,hF,hp2,by lia,?_⟩;refine⟨((p^m:Nat):Int),rfl,by lia,by lia,?_⟩;refine zan za0 (λk acc H'=>H'=H/\acc=(((List.range k).filter λx=>decide (pw p m t x (p^few)=x)).map Vn)) ⟨rfl,rfl⟩ (λ_ _ _ _ _=>trivial) ?_ ?_ ?_
 ·rintro k acc H' hk ⟨_,rfl⟩;have:=List.length_filter_le (λx=>decide (pw p m t x (p^few)=x)) (List.range k);rw[List.length_range]at this;rw[List.length_map];exact zai (by lia)
 ·rintro k acc x H' H'' hk ⟨rfl,rfl⟩ ⟨rfl,rfl⟩;have hk2:k<p^m:=by lia
  refine⟨_,rfl,_,rfl,_,rfl,a,p,m,t,k,((p^few:Nat):Int),?_,hF,G,hk2,by lia,?_⟩
  ·rw[show(0+(k:Int))=(k:Int) by lia];rfl
  rw[zcT G hk2];refine⟨_,rfl,rfl,_,rfl,?_⟩;have ed:decide (Vn (pw p m t k (p^few))=V.int (0+(k:Int)))=decide (pw p m t k (p^few)=k):=by
   rw[show(0+(k:Int))=(k:Int) by lia];exact decide_eq_decide.mpr ⟨λe=>Int.ofNat.inj (V.int.inj e),λe=>by rw[e]⟩
  rw[ed,List.range_succ,List.filter_append];refine ite2 (λc=>?_) (λc=>?_)
  ·have c':pw p m t k (p^few)=k:=of_decide_eq_true c;refine⟨_,rfl,rfl,?_⟩;rw[List.map_append,show V.int (0+(k:Int))=Vn k from zbX (by lia)];simp[c']
  ·have c':¬ pw p m t k (p^few)=k:=λh=>c (decide_eq_true h)
   refine⟨rfl,?_⟩;simp[c']
 ·rintro acc H1 ⟨rfl,rfl⟩ D hD;rw[Int.toNat_natCast];have s1:=yaa hD (.lst ((lets p m t few).map Vn));refine⟨D,_,rfl,.inl ⟨SqL.of zaa,λr hr=>?_⟩⟩;exact q r _ (s1.trans (yaa hr _)) (s1.free hr) zaa
inductive ybW (K:PySem.W.Frag) (vs:List V) (H:Hp) (Q:VK) (E:XK):Prop
 |mk (fa a b:Addr) (p m t:Nat) (xs ys:List Nat) (c1:vs=[.ref fa,.ref a,.ref b]) (c2:Fld K H fa p m t) (c3:Good p m t) (c4:SqT K H a (xs.map Vn)) (c5:SqT K H b (ys.map Vn)) (c6:xs.length<=100) (c7:(∀x∈xs,x<p^m)) (c8:(∀y∈ys,y<p^m)) (c9:∀r H',Same H H'->H r=none->H' r=some (.tup ((sums p m xs ys).map Vn))->Q (.ref r) H'):ybW K vs H Q E
theorem yer:yad ["field","one","other"] ["field","one","other"] (zac ybG):=⟨rfl,rfl,rfl,by decide +kernel,rfl,by decide +kernel,by decide +kernel⟩
theorem yev(B:Bl mg)(h_plus:Has P w K mg base 1 "plus" ["field","one","other"] (zbQ K))(F:Fun K "word_sum" "word_sum" ybG f fd):FnOk P w K mg base CX0 2 f fd ["field","one","other"] (ybW K):=by
 refine F.ok yer (λvs H Q E h=>?_) (λcdv A outer s H vs Q E hr h=>?_)
 ·obtain⟨fa,a,b,p,m,t,xs,ys,rfl,_⟩:=h;rfl
 obtain⟨fa,a,b,p,m,t,xs,ys,rfl,hF,G,ha,hb,hl,hx,hy,q⟩:=h;have hp2:=p_le G.hp G.hm G.hq;refine⟨_,(~~~((yak<*("tuple",yai,((["a","b"]⊆(["field"],[0],["field","one","other"],ybG,(@yf1 _ _ _ _ _ _ _ _ _ rfl (B "zip" (by decide)) ((pv 1)>=>(pv 2)>=>zab) ⋯ ⋯),(@ydk _ _ _ _ 2 _ K rfl rfl ((0⊇["a","b","field"])∩((1⊇["a","b","field"])∩yav)) ⋯ ⋯),zau,(h_plus<$>((pv 2)>=>(pv 0)>=>(pv 1)>=>zab))))>=>zab)))⁻¹)),?_⟩
 try dsimp only[cxOf]
 refine⟨_,rfl,_,rfl,true,true,a,b,rfl,⟨_,ha⟩,⟨_,hb⟩,?_⟩;refine zan (ydK (xs:=xs.map Vn) (ys:=ys.map Vn)) (λk acc H'=>Same H H'/\acc=((List.range k).map λi=>add p m (xs.getD i 0) (ys.getD i 0)).map Vn) ⟨Same.refl _,rfl⟩ (λi acc H' _ h=>⟨Same.tup h.1 ha,Same.tup h.1 hb⟩) ?_ ?_ ?_
 ·rintro k acc H' hk ⟨_,rfl⟩;rw[List.length_map,List.length_map]at hk;rw[List.length_map,List.length_map,List.length_range];exact zai (by lia)
 ·rintro k acc z H1 H2 hk ⟨s1,rfl⟩ ⟨T,u,v,rfl,eu,ev,hT,rfl⟩;rw[List.length_map,List.length_map]at hk;rw[zar (by lia)]at eu ev;cases eu;cases ev;refine⟨T,_,rfl,SqT.of zaa,rfl,_,_,rfl,_,_,rfl,rfl,?_⟩;have s2:=s1.trans (yaa hT (.tup [Vn (xs.getD k 0),Vn (ys.getD k 0)]));refine⟨_,rfl,_,rfl,_,rfl,fa,p,m,t,xs.getD k 0,ys.getD k 0,rfl,Same.tup s2 hF,G.hp,hp2,λr h1=>?_⟩;cases zeY G.hp G.hm (zaG hx (by lia)) (zaG hy (by lia)) h1;refine⟨s2,?_⟩;rw[List.range_succ,List.map_append,List.map_append];rfl
 ·rw[List.length_map,List.length_map];rintro acc H1 ⟨s1,rfl⟩ D hD;refine⟨D,_,rfl,.inl ⟨SqL.of zaa,λr hr=>?_⟩⟩;have s2:=s1.trans (yaa hD (.lst ((sums p m xs ys).map Vn)));exact q r _ (s2.trans (yaa hr _)) (s2.free hr) zaa
inductive ydy (K:PySem.W.Frag) (vs:List V) (H:Hp) (Q:VK) (E:XK):Prop
 |mk (wh fa mk:Addr) (p m t few root n fr:Nat) (marks:List Nat) (c1:vs=[.ref wh]) (c2:WhAt H wh fa mk few root marks) (c3:Fld K H fa p m t) (c4:Good p m t) (c5:0<root) (c6:root<p^m) (c7:Ord p m t root n) (c8:fr+marks.length=n) (c9:Q (Vn fr) H):ydy K vs H Q E
theorem zhE:yad ["wheel"] ["wheel"] (zac yfO):=⟨rfl,rfl,rfl,by decide +kernel,rfl,by decide +kernel,by decide +kernel⟩
theorem yhm(B:Bl mg)(h_length:Has P w K mg base 5 "length" ["wheel"] (zbY K))(F:Fun K "free" "free" yfO f fd):FnOk P w K mg base CX0 6 f fd ["wheel"] (ydy K):=by
 refine F.ok zhE (λvs H Q E h=>?_) (λcdv A outer s H vs Q E hr h=>?_)
 ·obtain⟨wh,fa,mk,p,m,t,few,root,n,fr,marks,rfl,_⟩:=h;rfl
 obtain⟨wh,fa,mk,p,m,t,few,root,n,fr,marks,rfl,hW,hF,G,h0,hq,o,hfr,q⟩:=h;refine⟨_,(~~~((yan|||(h_length<$>((pv 0)>=>zab))|||(yae>>>("len",PySem.boot_len,((zam<<<(pv 0)<<<yab)>=>zab))))⁻¹)),?_⟩
 try dsimp only[cxOf]
 refine⟨_,rfl,wh,fa,p,m,t,few,root,_,rfl,SqT.of hW.w,hF,G,h0,hq,λn' o' _=>?_⟩;cases o'.uniq o;refine⟨_,rfl,wh,_,_,.ref mk,rfl,rfl,SqT.of hW.w,rfl,mk,_,rfl,.inr (SqT.of hW.k),_,_,rfl,rfl,?_⟩;show Q (V.int ((n:Int)-(((marks.map Vn).length:Nat):Int))) H;rw[List.length_map,show(n:Int)-(marks.length:Int)=(fr:Int) by lia];exact q
inductive zdy (K:PySem.W.Frag) (vs:List V) (H:Hp) (Q:VK) (E:XK):Prop
 |mk (wh fa mk:Addr) (p m t few root n fr:Nat) (marks:List Nat) (c1:vs=[.ref wh]) (c2:WhAt H wh fa mk few root marks) (c3:Fld K H fa p m t) (c4:Good p m t) (c5:0<root) (c6:root<p^m) (c7:Ord p m t root n) (c8:fr+marks.length=n) (c9:few<=6) (c10:p^few<=64) (c11:n<=64) (c12:Q (Vn ((p^few)^fr)) H):zdy K vs H Q E
theorem zcM:yad ["wheel","q"] ["wheel"] (zac zci):=⟨rfl,rfl,rfl,by decide +kernel,rfl,by decide +kernel,by decide +kernel⟩
theorem ygV(B:Bl mg)(h_number_power:Has P w K mg base 1 "number_power" ["base","many"] zah)(h_free:Has P w K mg base 6 "free" ["wheel"] (ydy K))(F:Fun K "how_many" "how_many" zci f fd):FnOk P w K mg base CX0 7 f fd ["wheel"] (zdy K):=by
 refine F.ok zcM (λvs H Q E h=>?_) (λcdv A outer s H vs Q E hr h=>?_)
 ·obtain⟨wh,fa,mk,p,m,t,few,root,n,fr,marks,rfl,_⟩:=h;rfl
 obtain⟨wh,fa,mk,p,m,t,few,root,n,fr,marks,rfl,hW,hF,G,h0,hq,o,hfr,hf6,hpf,hn,q⟩:=h;refine⟨_,((1<|>zcM.nd<|>(h_number_power<$>((zam<<<(zam<<<(pv 0)<<<yab)<<<yab)>=>(zam<<<(pv 0)<<<yab)>=>zab)))<=<(~~~((h_number_power<$>((pv 1)>=>(h_free<$>((pv 0)>=>zab))>=>zab))⁻¹))),?_⟩
 try dsimp only[cxOf]
 refine⟨_,rfl,wh,_,_,.ref fa,rfl,rfl,SqT.of hW.w,rfl,fa,_,_,.int p,rfl,rfl,hF,rfl,_,rfl,wh,_,_,Vn few,rfl,rfl,SqT.of hW.w,rfl,p,few,rfl,p_le G.hp G.hm G.hq,by lia,?_⟩;dsimp only[zaj];refine⟨_,rfl,_,rfl,wh,fa,mk,p,m,t,few,root,n,fr,marks,rfl,hW,hF,G,h0,hq,o,hfr,?_⟩;exact⟨p^few,fr,rfl,hpf,by lia,q⟩
theorem zeq{p m t root:Nat}{marks:List Nat}{few fr n:Nat}(G:Good p m t)(hfr:fr+marks.length=n):∀k,k<=fr->∀u∈wdL p m t root marks few fr k,u.length=n/\∀x∈u,x<p^m
 |0,_,u,hu=>by
  have uz:∀x∈List.replicate fr 0,x<p^m:=λx hx=>by rw[List.eq_of_mem_replicate hx];exact zae G.hp G.hm
  cases List.mem_singleton.mp hu;exact⟨by rw[ycd G uz,List.length_replicate];lia,yd9 G uz⟩
 |k+1,hk,u,hu=>by
  obtain⟨v,hv,h1⟩:=List.mem_flatMap.mp hu;obtain⟨y,hy,rfl⟩:=List.mem_map.mp h1;obtain⟨c,_,rfl⟩:=List.mem_map.mp hy;have h2:=zeq G hfr k (by lia) v hv;refine⟨?_,zhO G⟩;rw[ygO,ybv,ycd G (zck G),zdu (by lia),h2.1]
  lia
noncomputable def WQ(K:PySem.W.Frag)(wh fa mk:Addr)(p m t few root n fr:Nat)(marks:List Nat)(H:Hp):Prop:=WhAt H wh fa mk few root marks/\Fld K H fa p m t/\Good p m t/\0<root/\root<p^m/\Ord p m t root n/\fr+marks.length=n/\n<=64/\m%few=0/\1<=few/\p^few<=64
inductive ydI (K:PySem.W.Frag) (vs:List V) (H:Hp) (Q:VK) (E:XK):Prop
 |mk (wh fa mk:Addr) (p m t few root n fr:Nat) (marks:List Nat) (c1:vs=[.ref wh]) (c2:WQ K wh fa mk p m t few root n fr marks H) (c3:(p^few)^fr<=4096) (c4:∀(r:Addr) (ds:List Addr) (rs:List (List Nat)) (H':Hp),Same H H'->SqT K H' r (ds.map V.ref)->Rws K H' ds rs->rs.Perm (wdL p m t root marks few fr fr)->Q (.ref r) H'):ydI K vs H Q E
theorem yaY:yad ["wheel","field","own","many","found","place","alone","multiples"] ["wheel"] (zac zcE):=⟨rfl,rfl,rfl,by decide +kernel,rfl,by decide +kernel,by decide +kernel⟩
theorem zgD(m_MOST_WORDS:mg "MOST_WORDS"=some (.int 4096 tk))(B:Bl mg)(h_how_many:Has P w K mg base 7 "how_many" ["wheel"] (zdy K))(h_letters:Has P w K mg base 6 "letters" ["field","few"] (yce K))(h_free:Has P w K mg base 6 "free" ["wheel"] (ydy K))(h_made:Has P w K mg base 8 "made" ["wheel","given"] (zeF K))(h_word_times:Has P w K mg base 4 "word_times" ["field","one","word"] (zbn K))(h_word_sum:Has P w K mg base 2 "word_sum" ["field","one","other"] (ybW K))(F:Fun K "words" "words" zcE f fd):FnOk P w K mg base CX0 9 f fd ["wheel"] (ydI K):=by
 refine F.ok yaY (λvs H Q E h=>?_) (λcdv A outer s H vs Q E hr h=>?_)
 ·obtain⟨wh,fa,mk,p,m,t,few,root,n,fr,marks,rfl,_⟩:=h;rfl
 obtain⟨wh,fa,mk,p,m,t,few,root,n,fr,marks,rfl,⟨hW,hF,G,h0,hq,o,hfr,hn,hmf,hf1,hpf⟩,hz,qQ⟩:=h;have hp:=G.hp;have hm:=G.hm;have hQ:=zap hp hm;have hm6:=m_le hp G.hq;have hf6:few<=6:=Nat.le_trans (Nat.le_of_dvd (by lia) (Nat.dvd_of_mod_eq_zero hmf)) hm6;refine⟨_,(((yco∪(h_how_many<$>((pv 0)>=>zab))∪(@zhK _ _ _ _ _ rfl m_MOST_WORDS (zgZ _ _) (by decide)))*>((~~~yct),yao))<=<(1<|>yaY.nd<|>(zam<<<(pv 0)<<<yab))<=<(2<|>yaY.nd<|>(h_letters<$>((pv 1)>=>(zam<<<(pv 0)<<<yab)>=>zab)))<=<(3<|>yaY.nd<|>(h_free<$>((pv 0)>=>zab)))<=<(4<|>yaY.nd<|>(@zaq _ _ _ _ ((h_made<$>((pv 0)>=>(ycT|||(@yaM _ _ _ _ _ (yab>=>zab))|||(pv 3))>=>zab))>=>zab)))<=<((↑((pv 3)>=>zab))<&>((5&&&yaY.nd),((6<|>yaY.nd<|>(h_made<$>((pv 0)>=>(zdA|||(zdA|||(ycT|||(@yaM _ _ _ _ _ (yab>=>zab))|||(pv 5))|||(@yaM _ _ _ _ _ (yab>=>zab)))|||(ycT|||(@yaM _ _ _ _ _ (yab>=>zab))|||(yan|||(yan|||(pv 3)|||(pv 5))|||yab)))>=>zab)))<=<(7<|>yaY.nd<|>(["letter"]⊆(["field","alone"],[1,6],["wheel","field","own","many","found","place","alone","multiples"],zcE,(@yb0 _ _ _ _ (pv 2)),(0⊇["letter","field","alone"]),zau,(h_word_times<$>((pv 1)>=>(pv 0)>=>(pv 2)>=>zab)))))<=<(~~~(zgy (i:=4) yaY.nd rfl (Or.inl rfl) (tg:=["word","multiple"]) (cp:=["multiples","field"]) (ci:=[7,1]) (id (α:=CSc ["wheel","field","own","many","found","place","alone","multiples"] (zac zcE) ["word","multiple"] ["multiples","field"] [7,1] _) ⟨by rfl,by decide +kernel,by decide +kernel,by decide +kernel,by decide +kernel,by rfl,by decide +kernel⟩) rfl (zaO (pv 4)) (λcl C fp s H=>(ycV (i:=0) (by show List.Nodup (["word","multiple","multiples","field"]:List Str);decide +kernel) rfl (Or.inl rfl))) (λ_ _ _ _ _=>(zgI (K:=K) rfl (pv 2))) (λcl C fp s H=>(ycV (i:=1) (by show List.Nodup (["word","multiple","multiples","field"]:List Str);decide +kernel) rfl (Or.inl rfl))) (λ_ _ _ _ _=>(zdo h_word_sum hr (by decide) rfl (ybm (pv 3) (ybm (pv 0) (ybm (pv 1) zab))))))))))<=<(~~~((yak<*("tuple",yai,((ydX>>>("sorted",ybN,((pv 4)>=>zab)))>=>zab)))⁻¹))),?_⟩
 try dsimp only[cxOf]
 refine⟨_,rfl,wh,fa,mk,p,m,t,few,root,n,fr,marks,rfl,hW,hF,G,h0,hq,o,hfr,hf6,hpf,hn,?_⟩;refine⟨_,_,rfl,rfl,_,rfl,?_⟩;refine ite2 (λc=>absurd (of_decide_eq_true c) (by lia)) (λc=>?_);dsimp only[yex,zaj];refine⟨_,rfl,wh,_,_,.ref fa,rfl,rfl,SqT.of hW.w,rfl,?_⟩;dsimp only[zaj];refine⟨_,rfl,_,rfl,wh,_,_,Vn few,rfl,rfl,SqT.of hW.w,rfl,fa,p,m,t,few,rfl,hF,G,hf6,λow H1 s1 now eow=>?_⟩;have hW1:=hW.same s1;have hF1:=Same.tup s1 hF;dsimp only[zaj];refine⟨_,rfl,wh,fa,mk,p,m,t,few,root,n,fr,marks,rfl,hW1,hF1,G,h0,hq,o,hfr,?_⟩;dsimp only[zaj];refine⟨_,rfl,szl 1,λz hz1=>?_⟩;have t1:=yaa hz1 (.tup [.int 0]);refine⟨_,rfl,ydt (SqT.of zaa) (by lia) λz2 H2 t2 hz2=>?_⟩;have s2:=s1.trans (t1.trans t2);refine⟨wh,fa,mk,z2,p,m,t,few,root,marks,_,rfl,hW.same s2,Same.tup s2 hF,G,h0,hq,by lia,hz2,by rw[List.length_replicate];lia,λx hx=>by rw[List.eq_of_mem_replicate hx];exact zae hp hm,λw0 H3 t3 hw0=>?_⟩;have s3:=s2.trans t3;refine⟨szl 1,λD hD=>?_⟩;have t4:=yaa hD (.lst [.ref w0]);have s4:=s3.trans t4;dsimp only[zaj];have ll:=zep G hmf hf1;have wl:∀k,k<=fr->(wdL p m t root marks few fr k).length<=4096:=λk hk=>by
  rw[yc1,ll];exact Nat.le_trans (Nat.pow_le_pow_right (Nat.pow_pos (by lia)) hk) hz
 have uz:∀x∈List.replicate fr 0,x<p^m:=λx hx=>by rw[List.eq_of_mem_replicate hx];exact zae hp hm
 have wr:∀k,k<=fr->∀u∈wdL p m t root marks few fr k,u.length=n/\∀x∈u,x<p^m:=zeq G hfr;refine⟨_,rfl,(fr:Int),rfl,by lia,by lia,?_⟩
 let I1:Nat->St->Hp->Prop:=λk σ H'=>An3 (Same H H') (H' ow=some (.tup ((lets p m t few).map Vn))) (Ex5 λ(D:Addr) (ds:List Addr) (s5 s6 s7:Option V)=>An3 (H' D=some (.lst (ds.map V.ref))) (Rws K H' ds (wdL p m t root marks few fr k)) (σ=[some (.ref wh),some (.ref fa),some (.ref ow),some (Vn fr),some (.ref D),s5,s6,s7]))
 refine yaG (za0 (lo:=0) (n:=((fr:Nat):Int).toNat)) I1 ⟨s4,t4 _ _ (t3 _ _ (t2 _ _ (t1 _ _ eow))),D,[w0],none,none,none,zaa,⟨Same.tup t4 hw0,trivial⟩,rfl⟩ (λ_ _ _ _ _=>trivial) ?_ ?_
 ·rintro k x σ H5 H5' hk ⟨s5,e5,D,ds,v5,v6,v7,eD,hR,rfl⟩ ⟨rfl,rfl⟩;rw[Int.toNat_natCast]at hk;rw[show V.int (0+(k:Int))=Vn k from zbX (Int.zero_add _)];dsimp only[zaj];refine⟨_,rfl,szl 1,λa1 ha1=>?_⟩;have x1:=yaa ha1 (.tup [.int 0]);refine⟨_,rfl,ydt (SqT.of zaa) (by lia) λa2 H6 x2 ha2=>?_⟩;refine⟨szl 1,λa3 ha3=>?_⟩;have x3:=yaa ha3 (.tup [.int 1]);refine ydp (Same.tup x3 ha2) (SqT.of zaa) (by rw[List.length_map,List.length_replicate,List.length_singleton];lia) λa4 H7 x4 ha4=>?_
  refine⟨szl 1,λa5 ha5=>?_⟩;have x5:=yaa ha5 (.tup [.int 0]);refine⟨_,rfl,_,rfl,_,_,rfl,rfl,_,_,rfl,rfl,?_⟩;rw[show V.int ((fr:Int)-(k:Int)-1)=Vn (fr-k-1) from zbX (by lia)];refine ydt (SqT.of zaa) (by lia) λa6 H8 x6 ha6=>?_
  refine ydp (Same.tup (x5.trans x6) ha4) ha6 (by rw[List.length_append,List.length_map,List.length_replicate,List.length_map,List.length_replicate];show k+1+_<=_;lia) λa7 H9 x7 ha7=>?_
  have s9:=s5.trans ((x1.trans x2).trans ((x3.trans x4).trans ((x5.trans x6).trans x7)));have y9:=(x1.trans x2).trans ((x3.trans x4).trans ((x5.trans x6).trans x7));have eu:(List.replicate k 0).map Vn++[.int 1]++(List.replicate (fr-k-1) 0).map Vn=(unG fr k).map Vn:=by
   unfold unG;rw[List.map_append,List.map_append];rfl
  rw[eu]at ha7;refine⟨wh,fa,mk,a7,p,m,t,few,root,marks,unG fr k,rfl,hW.same s9,Same.tup s9 hF,G,h0,hq,by lia,ha7,by rw[zdu hk];lia,zck G,λal H10 x10 hal=>?_⟩;have s10:=s9.trans x10;have hal1:(mdL p m t root marks (unG fr k)).length=n:=by rw[ycd G (zck G),zdu hk];lia
  have hal2:=yd9 (root:=root) (marks:=marks) G (zck (fr:=fr) (k:=k) G);dsimp only[zaj];have hF10:=Same.tup s10 hF;have eow10:=x10 _ _ (y9 _ _ e5);refine⟨_,rfl,ow,rfl,⟨_,SqT.of eow10⟩,?_⟩;refine zan (zaW (xs:=(lets p m t few).map Vn)) (λi acc H'=>Same H10 H'/\∃ms:List Addr,acc=ms.map V.ref/\Rws K H' ms ((mulR p m t root marks few fr k).take i)) ⟨Same.refl _,[],rfl,trivial⟩ (λi acc H' _ h=>SqT.of (h.1 _ _ eow10)) ?_ ?_ ?_
  ·rintro i acc H' hi ⟨_,ms,rfl,hms⟩;have h1:=hms.len;rw[List.length_take]at h1;rw[List.length_map,ll]at hi;rw[List.length_map];exact zai (by lia)
  ·rintro i acc z H11 H12 hi ⟨s11,ms,rfl,hms⟩ ⟨rfl,ez⟩;rw[List.length_map]at hi;rw[zar hi]at ez;cases ez;refine⟨_,rfl,_,rfl,_,rfl,fa,al,p,m,t,(lets p m t few).getD i 0,mdL p m t root marks (unG fr k),rfl,Same.tup s11 hF10,G,zaG zaM hi,Same.tup s11 hal,by lia,hal2,λr H13 s13 _ er=>?_⟩;refine⟨s11.trans s13,ms++[r],by rw[List.map_append];rfl,?_⟩;rw[ya3 (d:=[]) (by unfold mulR;rw[List.length_map];exact hi)];refine(hms.same s13).app ⟨?_,trivial⟩;have e:(mulR p m t root marks few fr k).getD i []=yat p m t ((lets p m t few).getD i 0) (mdL p m t root marks (unG fr k)):=by
    unfold mulR;simp[List.getD,hi]
   rw[e];exact SqT.of er
  rw[List.length_map];rintro acc H11 ⟨s11,ms,rfl,hms⟩ M hM;rw[List.take_of_length_le (by unfold mulR;rw[List.length_map];exact Nat.le_refl _)]at hms;have x12:=yaa hM (.lst (ms.map V.ref));have s12:=s10.trans (s11.trans x12);have z12:=(y9.trans x10).trans (s11.trans x12);dsimp only[zaj];have eM:upd H11 M (.lst (ms.map V.ref)) M=some (.lst (ms.map V.ref)):=zaa;have hms12:=hms.same x12;have eow12:=z12 _ _ e5;have eD12:=z12 _ _ eD;have hR12:=hR.same z12;generalize upd H11 M (.lst (ms.map V.ref))=H12 at x12 s12 z12 eM hms12 eow12 eD12 hR12 ⊢;refine⟨_,rfl,D,rfl,⟨_,SqL.of eD12⟩,?_⟩;have hRl:=hR12.len;have hml:=hms12.len;have hmul:(mulR p m t root marks few fr k).length=(lets p m t few).length:=List.length_map _;have sz:∀i j:Nat,i<(wdL p m t root marks few fr k).length->j<(lets p m t few).length->i*(lets p m t few).length+j<4096:=λi j hi hj=>by
   have h1:=wl (k+1) hk;have h2:(wdL p m t root marks few fr (k+1)).length=(wdL p m t root marks few fr k).length*(lets p m t few).length:=by rw[yc1,yc1,Nat.pow_succ]
   have h3:(i+1)*(lets p m t few).length<=(wdL p m t root marks few fr k).length*(lets p m t few).length:=Nat.mul_le_mul_right _ hi;rw[Nat.succ_mul]at h3
   lia
  have fl:∀i,i<=(wdL p m t root marks few fr k).length->(((wdL p m t root marks few fr k).take i).flatMap λu=>(mulR p m t root marks few fr k).map (sums p m u)).length=i*(lets p m t few).length:=λi hi=>by
   rw[List.length_flatMap,show(List.map (λu=>((mulR p m t root marks few fr k).map (sums p m u)).length) ((wdL p m t root marks few fr k).take i))=((wdL p m t root marks few fr k).take i).map λ_=>(lets p m t few).length from List.map_congr_left λ_ _=>by rw[List.length_map];exact hmul];rw[List.map_const',List.sum_replicate_nat,List.length_take,Nat.min_eq_left hi]
  refine yfQ (yaH (xs:=ds.map V.ref)) (In:=λacc N σ H=>tIn _ _ _ acc N σ H) (λi acc H'=>Same H12 H'/\∃es:List Addr,acc=es.map V.ref/\Rws K H' es (((wdL p m t root marks few fr k).take i).flatMap λu=>(mulR p m t root marks few fr k).map (sums p m u))) ⟨Same.refl _,[],rfl,trivial⟩ (λi acc H' _ h=>SqL.of (h.1 _ _ eD12)) ?_ ?_
  ·rintro i acc x H13 H13' hi ⟨s13,es,rfl,hes⟩ ⟨rfl,ez⟩;rw[List.length_map,hRl]at hi;obtain⟨d,ed,hd⟩:=hR12.get hi;rw[List.getElem?_map,ed]at ez;cases ez;obtain⟨u,eu⟩:∃u,u=(wdL p m t root marks few fr k).getD i []:=⟨_,rfl⟩
   rw[<-eu]at hd;have hu:=wr k (by lia) u (by rw[eu];simp[List.getD,hi]);have hmsl:=fl i (Nat.le_of_lt hi);rw[ya3 (d:=[]) hi,List.flatMap_append,<-eu,List.flatMap_singleton];generalize (((wdL p m t root marks few fr k).take i).flatMap λu=>(mulR p m t root marks few fr k).map (sums p m u))=prev at hes hmsl ⊢;refine⟨_,rfl,M,rfl,⟨_,SqL.of (s13 _ _ eM)⟩,?_⟩;refine zim (yaH (xs:=ms.map V.ref)) (λj σ acc H'=>Same H12 H'/\(∃es:List Addr,acc=es.map V.ref/\Rws K H' es (prev++((mulR p m t root marks few fr k).take j).map (sums p m u)))/\∃sj,σ=[some (.ref d),sj,some (.ref M),some (.ref fa)]) ⟨s13,⟨es,rfl,by rw[List.take_zero,List.map_nil,List.append_nil];exact hes⟩,none,rfl⟩ (λj σ acc H' _ h=>SqL.of (h.1 _ _ eM)) ?_ ?_ ?_
   ·rintro j σ acc H' hj ⟨_,⟨es,rfl,he⟩,_⟩;have h1:=he.len;rw[List.length_append,List.length_map,List.length_take]at h1;rw[List.length_map,hml,hmul]at hj;have:=sz i j hi hj;rw[List.length_map,h1,hmsl];exact szl _ (show i*(lets p m t few).length+min j _+1<=100000 by lia)
   ·rintro j σ acc x Ha Hb hj ⟨sa,⟨es,rfl,he⟩,sj,rfl⟩ ⟨rfl,ez⟩;rw[List.length_map,hml]at hj;obtain⟨d2,ed2,hd2⟩:=hms12.get hj;rw[List.getElem?_map,ed2]at ez;cases ez;have e2:(mulR p m t root marks few fr k).getD j []=yat p m t ((lets p m t few).getD j 0) (mdL p m t root marks (unG fr k)):=by
     unfold mulR;simp[List.getD,hmul ▸ hj]
    refine⟨_,rfl,_,rfl,_,rfl,fa,d,d2,p,m,t,u,(mulR p m t root marks few fr k).getD j [],rfl,Same.tup (s12.trans sa) hF,G,Same.tup sa hd,Same.tup sa hd2,by lia,hu.2,by rw[e2];exact zbZ G _ _,λr Hc sc _ er=>?_⟩;refine⟨sa.trans sc,⟨es++[r],by rw[List.map_append];rfl,?_⟩,_,rfl⟩;rw[ya3 (d:=[]) hj,List.map_append,<-List.append_assoc];exact(he.same sc).app ⟨SqT.of er,trivial⟩
   ·rintro σ acc Ha ⟨sa,⟨es,rfl,he⟩,_⟩;rw[List.length_map,hml,List.take_length]at he;exact⟨sa,es,rfl,he⟩
  ·rintro acc H13 ⟨s13,es,rfl,hes⟩ D2 hD2;rw[List.length_map,hRl,List.take_length]at hes;have x14:=yaa hD2 (.lst (es.map V.ref));exact⟨s12.trans (s13.trans x14),x14 _ _ (s13 _ _ eow12),D2,es,_,_,_,zaa,hes.same x14,rfl⟩
 ·rw[Int.toNat_natCast];rintro σ H5 ⟨s5,e5,D,ds,v5,v6,v7,eD,hR,rfl⟩;refine⟨_,rfl,D,ds,rfl,SqL.of eD,λd hd=>?_,λl es hl pe=>?_⟩
  ·obtain⟨r,hr,h⟩:=hR.mem hd;refine⟨r.map Int.ofNat,?_,by rw[List.map_map];exact h⟩;rw[List.length_map,(wr fr (Nat.le_refl _) r hr).1];exact o.pos
  ·obtain⟨qs,pq,hq2⟩:=hR.perm pe;have x6:=yaa hl (.lst (es.map V.ref));refine⟨l,_,rfl,.inl ⟨SqL.of zaa,λr hr=>?_⟩⟩;have x7:=x6.trans (yaa hr (.tup (es.map V.ref)));exact qQ r es qs _ (s5.trans x7) (SqT.of zaa) (hq2.same x7) pq
end
end My
end
section
namespace My
open PySem L2 Dg
noncomputable def mkP(p m t r:Nat)(row:List Nat)(j:Nat):List Nat:=(List.range (row.length+1)).map λi=>if i<j then sub p m ((0::row).getD i 0) (mul p m t r ((row++[0]).getD i 0)) else(0::row).getD i 0
theorem yf2(p m t r:Nat)(row:List Nat)(j:Nat):(mkP p m t r row j).length=row.length+1:=by simp[mkP]
theorem ygQ(p m t r:Nat)(row:List Nat):mkP p m t r row 0=0::row:=by
 refine List.ext_getElem (by simp[mkP]) λi h1 h2=>?_
 simp only[mkP,List.getElem_map,List.getElem_range];rw[if_neg (by lia),List.getD_eq_getElem?_getD,List.getElem?_eq_getElem h2];rfl
theorem yhl{p m t r:Nat}(G:Good p m t){row:List Nat}(hr:∀y∈row,y<p^m):mkP p m t r row row.length=mkS p m t r row:=by
 refine List.map_congr_left λi hi=>?_
 have hi:=List.mem_range.mp hi;by_cases c:i<row.length
 ·rw[if_pos c]
 ·rw[if_neg c];have e:i=row.length:=by lia
  subst e;have e1:(row++[0]).getD row.length 0=0:=by simp[List.getD]
  rw[e1,mul_zero G.hp G.hm];have hlt:(0::row).getD row.length 0<p^m:=zaG (xs:=0::row) (λx hx=>by
   rcases List.mem_cons.mp hx with rfl|h
   ·exact zae G.hp G.hm
   ·exact hr x h) (by simp)
  have:=ybB G.hp G.hm (y:=0) hlt;rw[add_zero G.hp G.hm (zby G.hp G.hm _ _)]at this;exact this.symm
theorem zhJ{p m t r:Nat}{row:List Nat}{j:Nat}(hj:j<row.length):(mkP p m t r row j).getD j 0=(0::row).getD j 0:=by
 unfold mkP;rw[rget (by lia),if_neg (by lia)]
theorem yhP{p m t r:Nat}{row:List Nat}{j:Nat}(hj:j<row.length):(mkP p m t r row j).set j (sub p m ((0::row).getD j 0) (mul p m t r (row.getD j 0)))=mkP p m t r row (j+1):=by
 refine List.ext_getElem (by simp[mkP]) λi h1 h2=>?_
 rw[List.getElem_set];by_cases e:j=i
 ·subst e;rw[if_pos rfl];simp only[mkP,List.getElem_map,List.getElem_range];rw[if_pos (by lia)];have e2:(row++[0]).getD j 0=row.getD j 0:=by simp[List.getD,List.getElem?_append,hj]
  rw[e2]
 ·rw[if_neg e];simp only[mkP,List.getElem_map,List.getElem_range];by_cases c:i<j
  ·rw[if_pos c,if_pos (by lia)]
  ·rw[if_neg c,if_neg (by lia)]
theorem ybF(n:Nat):(List.replicate n [V.int 0]).flatten=(List.replicate n 0).map Vn:=by
 induction n with
 |zero=>rfl
 |succ n ih=>rw[List.replicate_succ,List.flatten_cons,ih,List.replicate_succ];rfl
def mvL(p m t root n:Nat)(marks:List Nat)(i:Nat):List Nat:=padL i (n-i-(marks.length+1)) (mkL p m t root marks)
theorem zd7{p m t root n:Nat}{marks:List Nat}{i:Nat}(h:i<n-marks.length):(mvL p m t root n marks i).length=n:=by
 unfold mvL;rw[yhA,zaN];lia
noncomputable def Tups(H:Hp)(ds:List Addr)(ls:List (List Nat)):Prop:=ds.length=ls.length/\∀(i:Nat) d,ds[i]?=some d->∃rs,ls[i]?=some rs/\H d=some (.tup (rs.map Vn))
theorem Tups.same{ls:List (List Nat)}(h:Tups H ds ls)(s:Same H H'):Tups H' ds ls:=⟨h.1,λi d e=>by obtain⟨rs,a,b⟩:=h.2 i d e;exact⟨rs,a,s _ _ b⟩⟩
theorem Tups.at{ls:List (List Nat)}(h:Tups H ds ls)(hl:H l=some (.lst xs)):Tups (upd H l o) ds ls:=⟨h.1,λi d e=>by
 obtain⟨rs,a,b⟩:=h.2 i d e;refine⟨rs,a,?_⟩;rw[zad (λq=>by rw[q,hl]at b;cases b)];exact b⟩
theorem Tups.snoc{ls:List (List Nat)}{rs:List Nat}(h:Tups H ds ls)(hd:H d=some (.tup (rs.map Vn))):Tups H (ds++[d]) (ls++[rs]):=by
 refine⟨by simp[h.1],λi e he=>?_⟩;rw[List.getElem?_append]at he;split at he
 ·rename_i hi;obtain⟨r,a,b⟩:=h.2 i e he;exact⟨r,by rw[List.getElem?_append_left (by rw[<-h.1];exact hi)];exact a,b⟩
 ·rename_i hi;have hi2:i=ds.length:=by
   have:=(List.getElem?_eq_some_iff.mp he).1;simp at this;lia
  subst hi2;simp at he;subst he;exact⟨rs,by rw[h.1,List.getElem?_append_right (Nat.le_refl _)];simp,hd⟩
theorem Tups.app{ls ks:List (List Nat)}(h:Tups H ds ls)(h2:Tups H es ks):Tups H (ds++es) (ls++ks):=by
 refine⟨by simp[h.1,h2.1],λi e he=>?_⟩;rw[List.getElem?_append]at he;split at he
 ·rename_i hi;obtain⟨r,a,b⟩:=h.2 i e he;exact⟨r,by rw[List.getElem?_append_left (by rw[<-h.1];exact hi)];exact a,b⟩
 ·rename_i hi;obtain⟨r,a,b⟩:=h2.2 _ e he;exact⟨r,by rw[List.getElem?_append_right (by rw[<-h.1];lia),<-h.1];exact a,b⟩
noncomputable def WOk(p m t root n:Nat)(marks:List Nat)(ws:List (List Nat)):Prop:=∀w∈ws,w.length=n/\(∀x∈w,x<p^m)/\∀k∈marks,val p m t (pw p m t root k) w=0
noncomputable def lwL(p m t root n:Nat)(marks:List Nat)(few:Nat):Nat->List (List Nat)
 |0=>[List.replicate n 0]
 |k+1=>(lets p m t few).flatMap λc=>(lwL p m t root n marks few k).map λu=>addL p m u (yat p m t c (mvL p m t root n marks k))
theorem zdB{α:Type}{ws:List α}{f:Nat->α->α}:∀cs:List Nat,(cs.flatMap λc=>ws.map (f c)).length=cs.length*ws.length
 | []=>by simp
 |c::cs=>by
  rw[List.flatMap_cons,List.length_append,List.length_map,zdB cs,List.length_cons,Nat.succ_mul,Nat.add_comm]
theorem ycA(p m t root n:Nat)(marks:List Nat)(few:Nat):∀k,(lwL p m t root n marks few k).length=(lets p m t few).length^k
 |0=>rfl
 |k+1=>by
  show(List.flatMap _ _).length=_;rw[zdB,ycA p m t root n marks few k,Nat.pow_succ,Nat.mul_comm]
section
variable {P:Program} {w:World} {mg:Str->Option Value} {base:Heap} {f:Addr} {fd:FuncData}
theorem za2:yad ["_law_table_here","_law_few","_law_high","_law_some"] ["_law_table_here","_law_few"] (zac zaQ):=⟨rfl,rfl,rfl,by decide +kernel,rfl,by decide +kernel,by decide +kernel⟩
theorem yeF(B:Bl mg)(h__law_raised:Has P w K mg base 1 "_law_raised" ["_law_one","_law_many"] zah)(h__law_power:Has P w K mg base 1 "_law_power" ["_law_table_here","_law_one","_law_many"] zcq)(F:Fun K "_law_letters" "_law_letters" zaQ f fd):FnOk P w K mg base CX0 2 f fd ["_law_table_here","_law_few"] ybT:=by
 refine F.ok za2 (λvs H Q E h=>?_) (λcdv A outer s H vs Q E hr h=>?_)
 ·obtain⟨tb,fa,pa,la,p,m,t,b,few,rfl,_⟩:=h;rfl
 obtain⟨tb,fa,pa,la,p,m,t,b,few,rfl,T,hf,q⟩:=h;have G:=T.good;have hp:=G.hp;have hm:=G.hm;have hQ:=G.hq;refine⟨_,((2<|>za2.nd<|>(h__law_raised<$>(((pv 0)⊃zaF)>=>(pv 1)>=>zab)))<=<(3<|>za2.nd<|>((ybY rfl)<*("list",za7,((@zcD _ _ _ _ _ rfl (B "range" (by decide)) (((pv 0)⊃zaF)>=>zab) ⋯)>=>zab))))<=<(~~~((["_law_one"]⊆(["_law_table_here","_law_high"],[0,2],["_law_table_here","_law_few","_law_high","_law_some"],zaQ,(@zaO _ _ _ _ (pv 3)),(0⊇["_law_one","_law_table_here","_law_high"]),(@ycr _ _ _ (zbN∪(h__law_power<$>((pv 1)>=>(pv 0)>=>(pv 2)>=>zab))∪(pv 0))),(pv 0)))⁻¹))),?_⟩
 try dsimp only[cxOf]
 refine⟨_,rfl,tb,_,rfl,T.get zhM,_,rfl,p,few,rfl,p_le hp hm hQ,by lia,?_⟩;refine⟨_,rfl,tb,_,rfl,T.get ybK,_,rfl,λrg hrg=>?_⟩;refine⟨rg,0,((p^m:Nat):Int),rfl,zaa,⟨by decide,by decide,by lia,by lia⟩,szl _ (by lia),λso hso=>?_⟩;have eI:L2.intsFrom 0 (((p^m:Nat):Int)-0).toNat=(List.range (p^m)).map Vn:=by
  rw[Int.sub_zero,Int.toNat_natCast];unfold L2.intsFrom;refine List.map_congr_left λi _=>?_
  rw[Int.zero_add]
 rw[eI];have s1:=(yaa hrg (.rng 0 ((p^m:Nat):Int))).trans (yaa hso (.lst ((List.range (p^m)).map Vn)));have e1:upd (upd H rg (.rng 0 ((p^m:Nat):Int))) so (.lst ((List.range (p^m)).map Vn)) so=some (.lst ((List.range (p^m)).map Vn)):=zaa;dsimp only[zaj];generalize upd (upd H rg (.rng 0 ((p^m:Nat):Int))) so (.lst ((List.range (p^m)).map Vn))=H1 at s1 e1 ⊢;have T1:=T.same s1;refine⟨_,rfl,so,rfl,⟨_,SqL.of e1⟩,?_⟩;refine zan (yaH (xs:=(List.range (p^m)).map Vn)) (λk acc H'=>H'=H1/\acc=(((List.range k).filter λx=>decide (pw p m t x (p^few)=x)).map Vn)) ⟨rfl,rfl⟩ (λi acc H' _ h=>by rw[h.1];exact SqL.of e1) ?_ ?_ ?_
 ·rintro k acc H' hk ⟨_,rfl⟩;have:=List.length_filter_le (λx=>decide (pw p m t x (p^few)=x)) (List.range k);rw[List.length_range]at this;rw[List.length_map,List.length_range]at hk;rw[List.length_map];exact zai (by lia)
 ·rintro k acc x H' H'' hk ⟨rfl,rfl⟩ ⟨rfl,ez⟩;rw[List.length_map,List.length_range]at hk;rw[List.getElem?_map,List.getElem?_range hk]at ez;cases ez;refine⟨_,rfl,_,rfl,_,rfl,tb,fa,pa,la,p,m,t,b,k,((p^few:Nat):Int),rfl,T1,hk,?_⟩;rw[zcT G hk];refine⟨_,rfl,rfl,_,rfl,?_⟩;have ed:decide (Vn (pw p m t k (p^few))=Vn k)=decide (pw p m t k (p^few)=k):=decide_eq_decide.mpr ⟨λe=>Int.ofNat.inj (V.int.inj e),λe=>by rw[e]⟩;rw[ed,List.range_succ,List.filter_append];refine ite2 (λc=>?_) (λc=>?_)
  ·have c':pw p m t k (p^few)=k:=of_decide_eq_true c;refine⟨_,rfl,rfl,?_⟩;rw[List.map_append];simp[c']
  ·have c':¬ pw p m t k (p^few)=k:=λh=>c (decide_eq_true h)
   refine⟨rfl,?_⟩;simp[c']
 ·rintro acc H2 ⟨rfl,rfl⟩ D hD;rw[List.length_map,List.length_range];exact q D _ (s1.trans (yaa hD _)) (s1.free hD) zaa
theorem zas:yad ["_law_table_here","_law_wheel","_law_row","_law_mark","_law_root","_law_moved","_law_place","_law_thing"] ["_law_table_here","_law_wheel"] (zac zbu):=⟨rfl,rfl,rfl,by decide +kernel,rfl,by decide +kernel,by decide +kernel⟩
theorem yfs(B:Bl mg)(h__law_power:Has P w K mg base 1 "_law_power" ["_law_table_here","_law_one","_law_many"] zcq)(h__law_minus:Has P w K mg base 2 "_law_minus" ["_law_table_here","_law_one","_law_other"] zcR)(h__law_times:Has P w K mg base 1 "_law_times" ["_law_table_here","_law_one","_law_other"] ybk)(F:Fun K "_law_maker" "_law_maker" zbu f fd):FnOk P w K mg base CX0 3 f fd ["_law_table_here","_law_wheel"] ycY:=by
 refine F.ok zas (λvs H Q E h=>?_) (λcdv A outer s H vs Q E hr h=>?_)
 ·obtain⟨tb,fa,pa,la,wh,mk,p,m,t,b,few,root,marks,rfl,_⟩:=h;rfl
 obtain⟨tb,fa,pa,la,wh,mk,p,m,t,b,few,root,marks,rfl,T,hW,hr',hml,q⟩:=h;have G:=T.good;have hp:=G.hp;have hm:=G.hm;refine⟨_,((2<|>zas.nd<|>(@zaq _ _ _ _ (yab>=>zab)))<=<((@yb0 _ _ _ _ (zam<<<(pv 1)<<<yab))<&>((3&&&zas.nd),((4<|>zas.nd<|>(h__law_power<$>((pv 0)>=>(zam<<<(pv 1)<<<yab)>=>(pv 3)>=>zab)))<=<(5<|>zas.nd<|>(ycL|||(@zaq _ _ _ _ (yab>=>zab))|||(pv 2)))<=<((@ybw _ _ _ _ _ _ _ _ rfl (B "enumerate" (by decide)) ((pv 2)>=>zab) ⋯)<&>((@ycb _ _ _ _ _ _ rfl ((6&&&zas.nd)∩((7&&&zas.nd)∩yav)) ⋯ ⋯),(~~~(@zbO _ _ _ _ _ _ (h__law_minus<$>((pv 0)>=>(yah<<<(pv 5)<<<(pv 6))>=>(h__law_times<$>((pv 0)>=>(pv 4)>=>(pv 7)>=>zab))>=>zab)) (@zca _ _ _ _ _ _ _ (pv 5) (pv 6) zaP (by intro _;rfl)) ⋯ ⋯ ⋯))))<=<(~~~(2<|>zas.nd<|>(pv 5))))))<=<(~~~((pv 2)⁻¹))),?_⟩
 try dsimp only[cxOf]
 refine⟨szl 1,λr0 hr0=>?_⟩;have s1:=yaa hr0 (.lst [.int 1]);have e1:upd H r0 (.lst [.int 1]) r0=some (.lst ((mkL p m t root []).map Vn)):=zaa;dsimp only[zaj];generalize upd H r0 (.lst [.int 1])=H1 at s1 e1 ⊢;have hW1:=hW.same s1;refine⟨_,rfl,wh,_,_,.ref mk,rfl,rfl,SqT.of hW1.w,rfl,mk,rfl,⟨_,SqT.of hW1.k⟩,?_⟩;refine yaG (zaW (xs:=marks.map Vn)) (/-I1-/λi σ H'=>Same H H'/\Ex6 λ(rr:Addr) (s3 s4 s5 s6 s7:Option V)=>H rr=none/\H' rr=some (.lst ((mkL p m t root (marks.take i)).map Vn))/\σ=[some (.ref tb),some (.ref wh),some (.ref rr),s3,s4,s5,s6,s7]) ⟨s1,r0,none,none,none,none,none,hr0,e1,rfl⟩ (λi σ H' _ h=>SqT.of (h.1 _ _ hW.k)) ?_ ?_
 ·rintro i z σ H2 H2' hi ⟨s2,rr,s3,s4,s5,s6,s7,nrr,e2,rfl⟩ ⟨rfl,ez⟩;rw[List.length_map]at hi;have hk:marks[i]?=some (marks.getD i 0):=by rw[List.getElem?_eq_getElem hi];simp[List.getD,hi]
  rw[zar hi]at ez;cases ez;have T2:=T.same s2;refine⟨_,rfl,_,rfl,wh,_,_,Vn root,rfl,rfl,SqT.of (s2 _ _ hW.w),rfl,_,rfl,tb,fa,pa,la,p,m,t,b,root,(((marks.getD i 0):Nat):Int),rfl,T2,hr',?_⟩;rw[zcT G hr'];dsimp only[zaj];have hrow:=ybs (root:=root) G (marks.take i);have hrl:(mkL p m t root (marks.take i)).length<=65:=by rw[zaN,List.length_take];lia
  have etk:=yeL (p:=p) (m:=m) (t:=t) (root:=root) hk;rw[etk];generalize mkL p m t root (marks.take i)=row at e2 hrow hrl ⊢;have hpr:=yaw (t:=t) hp hm root (marks.getD i 0);generalize pw p m t root (marks.getD i 0)=rt at hpr ⊢;have hpos:=zae hp hm;refine⟨szl 1,λz1 hz1=>?_⟩;have t1:=yaa hz1 (.lst [.int 0]);refine⟨_,rfl,z1,rr,_,_,rfl,rfl,zaa,t1 _ _ e2,by rw[List.length_map];exact szl _ (by simp;lia),λl1 hl1=>?_⟩;have t2:=yaa hl1 (.lst ([.int 0]++row.map Vn));have f2:upd (upd H2' z1 (.lst [.int 0])) l1 (.lst ([.int 0]++row.map Vn)) l1=some (.lst ((mkP p m t rt row 0).map Vn)):=by rw[ygQ];exact zaa
  have e2':=t2 _ _ (t1 _ _ e2);have s4':=s2.trans (t1.trans t2);have nl1:H l1=none:=(s2.trans t1).free hl1;have nrl:rr≠l1:=yac (t1 _ _ e2) hl1;dsimp only[zaj];generalize upd (upd H2' z1 (.lst [.int 0])) l1 (.lst ([.int 0]++row.map Vn))=H3 at f2 e2' s4' ⊢;have q1:∀x∈(0::row),x<p^m:=λx hx=>by
   rcases List.mem_cons.mp hx with rfl|h
   ·exact hpos
   ·exact hrow x h
  refine⟨_,rfl,false,rr,rfl,⟨_,SqL.of e2'⟩,?_⟩;refine yaG (zaV (b:=false) (xs:=row.map Vn)) (/-I2-/λj σ H'=>Same H H'/\H' rr=some (.lst (row.map Vn))/\H' l1=some (.lst ((mkP p m t rt row j).map Vn))/\Ex2 λs6 s7=>σ=[some (.ref tb),some (.ref wh),some (.ref rr),some (Vn (marks.getD i 0)),some (Vn rt),some (.ref l1),s6,s7]) ⟨s4',e2',f2,_,_,rfl⟩ (λi σ H' _ h=>SqL.of h.2.1) ?_ ?_
  ·rintro j z σ H4 H5 hj ⟨s5',e4,f4,s6',s7',rfl⟩ ⟨Tt,u,rfl,eu,hT,rfl⟩;rw[List.length_map]at hj;rw[zar hj]at eu;cases eu;have sT:=yaa hT (.tup [.int (j:Int),Vn (row.getD j 0)]);have s6:=s5'.trans sT;have e5:=sT _ _ e4;have f5:=sT _ _ f4;have T5:=T.same s6;have hj0:=zaG q1 (i:=j) (by simp;lia);refine⟨Tt,_,rfl,SqT.of zaa,rfl,_,_,rfl,_,_,rfl,rfl,?_⟩;refine⟨_,rfl,_,rfl,_,rfl,l1,_,_,Vn ((0::row).getD j 0),rfl,rfl,SqL.of f5,?_,?_⟩
   ·rw[<-zhJ (p:=p) (m:=m) (t:=t) (r:=rt) hj];exact zaz (zar (by rw[yf2];lia))
   refine⟨_,rfl,_,rfl,_,rfl,tb,fa,pa,la,p,m,t,b,rt,row.getD j 0,rfl,T5,hpr,zaG hrow hj,?_⟩;refine⟨tb,fa,pa,la,p,m,t,b,(0::row).getD j 0,_,rfl,T5,hj0,yap hp hm _ _,?_⟩;refine⟨_,rfl,_,rfl,l1,_,_,j,rfl,rfl,f5,?_,?_⟩
   ·rw[List.length_map,yf2];show ixN (row.length+1) ((j:Nat):Int)=_;unfold ixN;rw[if_pos (by lia),if_pos (by lia)];rfl
   ·rw[<-List.map_set,yhP hj];exact⟨zaX s6 nl1,by rw[zad nrl];exact e5,zaa,_,_,rfl⟩
  ·rw[List.length_map,yhl G hrow];rintro σ H4 ⟨s5',e4,f4,s6',s7',rfl⟩;exact⟨_,rfl,s5',l1,_,_,_,_,_,nl1,f4,rfl⟩
 ·rw[List.length_map];rintro σ H2 ⟨s2,rr,s3,s4,s5,s6,s7,nrr,e2,rfl⟩;rw[List.take_length]at e2;exact⟨_,rfl,q rr _ s2 nrr e2⟩
theorem yij{n:Nat}{k:Int}{Q:V->Hp->Prop}(hz:H z=some (.tup [V.int 0]))(hk:k=(n:Int))(hn:n<=1000)(h:∀r H',Same H H'->H' r=some (.tup ((List.replicate n 0).map Vn))->Q (.ref r) H'):zhD K (.ref z) (.int k) H Q:=by
 subst hk;refine⟨z,_,_,rfl,rfl,SqT.of hz,by simp,by lia,by lia,by rw[Int.toNat_natCast];simp;exact szl _ (by lia),λk1=>?_,λk1 p1 hp1=>?_⟩
 ·have e:n=1:=by lia
  subst e;exact h z H (Same.refl _) hz
 ·rw[Int.toNat_natCast,ybF];exact h p1 _ (yaa hp1 _) zaa
inductive zek (K:PySem.W.Frag) (vs:List V) (H:Hp) (Q:VK) (E:XK):Prop
 |mk (tb fa pa la a b:Addr) (p m t c:Nat) (xs ys:List Nat) (c1:vs=[.ref tb,.ref a,.ref b]) (c2:Tab H tb fa pa la p m t c) (c3:H a=some (.tup (xs.map Vn))) (c4:H b=some (.lst (ys.map Vn))) (c5:xs.length<=100) (c6:(∀x∈xs,x<p^m)) (c7:(∀y∈ys,y<p^m)) (c8:∀r H',Same H H'->H r=none->H' r=some (.tup ((addL p m xs ys).map Vn))->Q (.ref r) H'):zek K vs H Q E
theorem ydM:yad ["_law_table_here","_law_one","_law_other"] ["_law_table_here","_law_one","_law_other"] (zac ya9):=⟨rfl,rfl,rfl,by decide +kernel,rfl,by decide +kernel,by decide +kernel⟩
theorem yhS(B:Bl mg)(h__law_plus:Has P w K mg base 1 "_law_plus" ["_law_table_here","_law_one","_law_other"] zct)(F:Fun K "_law_added" "_law_added" ya9 f fd):FnOk P w K mg base CX0 2 f fd ["_law_table_here","_law_one","_law_other"] (zek K):=by
 refine F.ok ydM (λvs H Q E h=>?_) (λcdv A outer s H vs Q E hr h=>?_)
 ·obtain⟨tb,fa,pa,la,a,b,p,m,t,c,xs,ys,rfl,_⟩:=h;rfl
 obtain⟨tb,fa,pa,la,a,b,p,m,t,c,xs,ys,rfl,T,ha,hb,hl,hx,hy,q⟩:=h;refine⟨_,(~~~((yak<*("tuple",yai,((["_law_a","_law_b"]⊆(["_law_table_here"],[0],["_law_table_here","_law_one","_law_other"],ya9,(@yf1 _ _ _ _ _ _ _ _ _ rfl (B "zip" (by decide)) ((pv 1)>=>(pv 2)>=>zab) ⋯ ⋯),(@ydk _ _ _ _ 2 _ K rfl rfl ((0⊇["_law_a","_law_b","_law_table_here"])∩((1⊇["_law_a","_law_b","_law_table_here"])∩yav)) ⋯ ⋯),zau,(h__law_plus<$>((pv 2)>=>(pv 0)>=>(pv 1)>=>zab))))>=>zab)))⁻¹)),?_⟩
 try dsimp only[cxOf]
 refine⟨_,rfl,_,rfl,true,false,a,b,rfl,⟨_,SqT.of ha⟩,⟨_,SqL.of hb⟩,?_⟩;refine zan (ydK (b1:=true) (b2:=false) (xs:=xs.map Vn) (ys:=ys.map Vn)) (λk acc H'=>Same H H'/\acc=((List.range k).map λi=>add p m (xs.getD i 0) (ys.getD i 0)).map Vn) ⟨Same.refl _,rfl⟩ (λi acc H' _ h=>⟨SqT.of (h.1 _ _ ha),SqL.of (h.1 _ _ hb)⟩) ?_ ?_ ?_
 ·rintro k acc H' hk ⟨_,rfl⟩;rw[List.length_map,List.length_map]at hk;rw[List.length_map,List.length_map,List.length_range];exact zai (by lia)
 ·rintro k acc z H1 H2 hk ⟨s1,rfl⟩ ⟨Tt,u,v,rfl,eu,ev,hT,rfl⟩;rw[List.length_map,List.length_map]at hk;rw[zar (by lia)]at eu ev;cases eu;cases ev;refine⟨Tt,_,rfl,SqT.of zaa,rfl,_,_,rfl,_,_,rfl,rfl,?_⟩;have s2:=s1.trans (yaa hT (.tup [Vn (xs.getD k 0),Vn (ys.getD k 0)]));refine⟨_,rfl,_,rfl,_,rfl,tb,fa,pa,la,p,m,t,c,xs.getD k 0,ys.getD k 0,rfl,T.same s2,zaG hx (by lia),zaG hy (by lia),?_⟩;refine⟨s2,?_⟩;rw[List.range_succ,List.map_append,List.map_append];rfl
 ·rw[List.length_map,List.length_map];rintro acc H1 ⟨s1,rfl⟩ D hD;refine⟨D,_,rfl,.inl ⟨SqL.of zaa,λr hr=>?_⟩⟩;have s2:=s1.trans (yaa hD (.lst ((addL p m xs ys).map Vn)));exact q r _ (s2.trans (yaa hr _)) (s2.free hr) zaa
theorem WOk.one{p m t root n:Nat}{marks:List Nat}(G:Good p m t):WOk p m t root n marks [List.replicate n 0]:=λw hw=>by
 rw[List.mem_singleton.mp hw];refine⟨by simp,λx hx=>by rw[(List.mem_replicate.mp hx).2];exact zae G.hp G.hm,λk _=>?_⟩;have:=ydD G (x:=pw p m t root k) n 0 (row:=[]) rfl;unfold padL at this
 simpa using this
theorem WOk.more{p m t root n:Nat}{marks:List Nat}(G:Good p m t){ws:List (List Nat)}{c:Nat}{part:List Nat}(h:WOk p m t root n marks ws)(hl:part.length=n)(hp:∀x∈part,x<p^m)(hz:∀k∈marks,val p m t (pw p m t root k) part=0):WOk p m t root n marks (ws.map λw=>addL p m w (yat p m t c part)):=λv hv=>by
 obtain⟨w,hw,rfl⟩:=List.mem_map.mp hv;obtain⟨h1,h2,h3⟩:=h w hw;have lp:(yat p m t c part).length=n:=by simp[yat];exact hl
 refine⟨zb8 h1 lp,zeh G _ _,λk hk=>?_⟩;have hx:=yaw (t:=t) G.hp G.hm root k;rw[zdw G hx h1 lp h2 (zbZ G c part),h3 k hk,zcK G hx hp,hz k hk,mul_zero G.hp G.hm,add_zero G.hp G.hm (zae G.hp G.hm)]
theorem ybZ{p m t root n:Nat}{marks:List Nat}{few:Nat}(G:Good p m t):∀k,k<=n-marks.length->WOk p m t root n marks (lwL p m t root n marks few k)
 |0,_=>WOk.one G
 |k+1,hk=>λu hu=>by
  obtain⟨c,_,h⟩:=List.mem_flatMap.mp hu;exact WOk.more G (ybZ G k (by lia)) (zd7 (by lia)) (yhb G (ybs G _)) (λk' hk'=>ydD G _ _ (yb9 G hk')) u h
inductive yc0 (vs:List V) (H:Hp) (Q:VK) (E:XK):Prop
 |mk (tb fa pa la wh mk:Addr) (p m t b few root n:Nat) (marks:List Nat) (c1:vs=[.ref tb,.ref wh]) (c2:Tab H tb fa pa la p m t b) (c3:WhAt H wh fa mk few root marks) (c4:1<=few) (c5:few<=6) (c6:m%few=0) (c7:0<root) (c8:root<p^m) (c9:Ord p m t root n) (c10:n<=64) (c11:marks.length<=n) (c12:(p^few)^(n-marks.length)<=4096) (c13:∀r (ds:List Addr) H',Same H H'->H' r=some (.lst (ds.map V.ref))->Tups H' ds (lwL p m t root n marks few (n-marks.length))->Q (.ref r) H'):yc0 vs H Q E
theorem yal:yad ["_law_table_here","_law_wheel","_law_n","_law_row","_law_some","_law_found","_law_move","_law_part","_law_more","_law_letter","_law_more_times"] ["_law_table_here","_law_wheel"] (zac zaU):=⟨rfl,rfl,rfl,by decide +kernel,rfl,by decide +kernel,by decide +kernel⟩
theorem yfB(B:Bl mg)(h__law_round:Has P w K mg base 2 "_law_round" ["_law_table_here","_law_one"] zbE)(h__law_maker:Has P w K mg base 3 "_law_maker" ["_law_table_here","_law_wheel"] ycY)(h__law_letters:Has P w K mg base 2 "_law_letters" ["_law_table_here","_law_few"] ybT)(h__law_times:Has P w K mg base 1 "_law_times" ["_law_table_here","_law_one","_law_other"] ybk)(h__law_added:Has P w K mg base 2 "_law_added" ["_law_table_here","_law_one","_law_other"] (zek K))(F:Fun K "_law_words" "_law_words" zaU f fd):FnOk P w K mg base CX0 4 f fd ["_law_table_here","_law_wheel"] yc0:=by
 refine F.ok yal (λvs H Q E h=>?_) (λcdv A outer s H vs Q E hr h=>?_)
 ·obtain⟨tb,fa,pa,la,wh,mk,p,m,t,b,few,root,n,marks,rfl,_⟩:=h;rfl
 obtain⟨tb,fa,pa,la,wh,mk,p,m,t,b,few,root,n,marks,rfl,T,hW,hf1,hf6,hfm,r0,rq,ord,hn,hml,hsz,ret⟩:=h;have G:=T.good;have hp:=G.hp;have hm:=G.hm;have hQ:=G.hq;have hlets:=zge G hfm hf1;have hq1:1<=p^few:=Nat.pow_pos (by lia);have ml:=zaN p m t root marks;refine⟨_,((@ycy _ _ 2 3 _ _ _ _ _ _ _ _ _ _ _ rfl yal.nd rfl rfl (by decide) rfl rfl ((h__law_round<$>((pv 0)>=>(zam<<<(pv 1)<<<yab)>=>zab))>=>(h__law_maker<$>((pv 0)>=>(pv 1)>=>zab))>=>zab) rfl ⋯)<=<(4<|>yal.nd<|>(h__law_letters<$>((pv 0)>=>(zam<<<(pv 1)<<<yab)>=>zab)))<=<(5<|>yal.nd<|>(@zaq _ _ _ _ ((ycT|||(@yaM _ _ _ _ _ (yab>=>zab))|||(pv 2))>=>zab)))<=<((↑((yan|||(pv 2)|||(yae>>>("len",PySem.boot_len,((zam<<<(pv 1)<<<yab)>=>zab))))>=>zab))<&>((6&&&yal.nd),((7<|>yal.nd<|>(ycL|||(ycL|||(zcn|||(@zaq _ _ _ _ (yab>=>zab))|||(pv 6))|||(pv 3))|||(zcn|||(@zaq _ _ _ _ (yab>=>zab))|||(yan|||(yan|||(pv 2)|||(pv 6))|||(yae>>>("len",PySem.boot_len,((pv 3)>=>zab)))))))<=<(8<|>yal.nd<|>(@zaq _ _ _ _ zab))<=<((@zaO _ _ _ _ (pv 4))<&>((9&&&yal.nd),((10<|>yal.nd<|>(["_law_thing"]⊆(["_law_table_here","_law_letter"],[0,9],["_law_table_here","_law_wheel","_law_n","_law_row","_law_some","_law_found","_law_move","_law_part","_law_more","_law_letter","_law_more_times"],zaU,(@zaO _ _ _ _ (pv 7)),(0⊇["_law_thing","_law_table_here","_law_letter"]),zau,(h__law_times<$>((pv 1)>=>(pv 2)>=>(pv 0)>=>zab)))))<=<(~~~(@zcj _ _ _ _ (@yfp _ _ _ _ _ _ _ _ _ _ _ _ PySem.F.plainAttrs_list PySem.F.slot_list_extend PySem.F.type_list_extend zgn (pv 8) ((["_law_word"]⊆(["_law_table_here","_law_more_times"],[0,10],["_law_table_here","_law_wheel","_law_n","_law_row","_law_some","_law_found","_law_move","_law_part","_law_more","_law_letter","_law_more_times"],zaU,(@zaO _ _ _ _ (pv 5)),(0⊇["_law_word","_law_table_here","_law_more_times"]),zau,(h__law_added<$>((pv 1)>=>(pv 0)>=>(pv 2)>=>zab))))>=>zab) ⋯ ⋯ ⋯ ⋯ ⋯) ⋯)))))<=<(~~~(5<|>yal.nd<|>(pv 8))))))<=<(~~~((pv 5)⁻¹))),?_⟩
 try dsimp only[cxOf]
 refine⟨_,rfl,_,rfl,wh,_,_,Vn root,rfl,rfl,SqT.of hW.w,rfl,tb,fa,pa,la,p,m,t,b,root,rfl,T,r0,rq,λn' o' _=>?_⟩;cases o'.uniq ord;refine⟨_,rfl,_,rfl,tb,fa,pa,la,wh,mk,p,m,t,b,few,root,marks,rfl,T,hW,rq,by lia,λmr H1 s1 _ e1=>?_⟩;refine⟨_,_,rfl,?_⟩;refine⟨_,rfl,_,rfl,wh,_,_,Vn few,rfl,rfl,SqT.of (hW.same s1).w,rfl,tb,fa,pa,la,p,m,t,b,few,rfl,T.same s1,hf6,λso H2 s2 _ e2=>?_⟩;refine⟨szl 1,λz hz=>?_⟩;refine⟨_,rfl,yij zaa rfl (by lia) λz1 H3 s3 e3=>?_⟩;refine⟨szl 1,λfl hfl=>?_⟩;have sF:=((yaa hz (.tup [V.int 0])).trans s3).trans (yaa hfl (.lst [.ref z1]));have s4:=(s1.trans s2).trans sF;have eM:=sF _ _ (s2 _ _ e1);have eS:=sF _ _ e2;have eF:upd H3 fl (.lst [.ref z1]) fl=some (.lst ([z1].map V.ref)):=zaa;have eZ:Tups (upd H3 fl (.lst [.ref z1])) [z1] [List.replicate n 0]:=⟨rfl,λi d e=>by
  have:i=0:=by have:=(List.getElem?_eq_some_iff.mp e).1;simp at this;lia
  subst this;cases e;exact⟨_,rfl,yaa hfl _ _ _ e3⟩⟩
 dsimp only[zaj];generalize upd H3 fl (.lst [.ref z1])=H4 at sF s4 eM eS eF eZ ⊢;clear e3 s3;have hW4:=hW.same s4;refine⟨_,rfl,_,rfl,wh,_,_,.ref mk,rfl,rfl,SqT.of hW4.w,rfl,mk,_,rfl,.inr (SqT.of hW4.k),_,_,rfl,rfl,((n-marks.length:Nat):Int),?_,by lia,by lia,?_⟩
 ·rw[List.length_map];show [V.int ((n:Int)-(marks.length:Int))]=_;rw[show(n:Int)-(marks.length:Int)=((n-marks.length:Nat):Int) by lia]
 let I3:Nat->St->Hp->Prop:=λk σ H'=>Same H4 H'/\Ex7 λ(fl:Addr) (ds:List Addr) (s6 s7 s8 s9 s10:Option V)=>An3 (H' fl=some (.lst (ds.map V.ref))) (Tups H' ds (lwL p m t root n marks few k)) (σ=[some (.ref tb),some (.ref wh),some (Vn n),some (.ref mr),some (.ref so),some (.ref fl),s6,s7,s8,s9,s10])
 refine zay (lo:=0) (n:=((n-marks.length:Nat):Int).toNat) I3 ⟨Same.refl _,fl,[z1],none,none,none,none,none,eF,eZ,rfl⟩ ?_ ?_
 ·rintro k σ H5 hk ⟨s5,fl,ds,s6,s7,s8,s9,s10,ef,hT,rfl⟩;rw[Int.toNat_natCast]at hk;have hw:=ybZ (root:=root) (marks:=marks) (few:=few) G k (Nat.le_of_lt hk);have hwl:(lwL p m t root n marks few k).length<=(p^few)^k:=by rw[ycA];exact Nat.pow_le_pow_left hlets k
  obtain⟨ws,ews⟩:∃ws,ws=lwL p m t root n marks few k:=⟨_,rfl⟩
  rw[<-ews]at hw hwl hT;have eM5:=s5 _ _ eM;have eS5:=s5 _ _ eS;refine⟨szl 1,λz hz=>?_⟩;have t1:=yaa hz (.lst [V.int 0]);refine⟨_,rfl,z,_,_,rfl,rfl,zaa,by lia,by lia,by rw[show(0+(k:Int)).toNat=k by lia];exact szl _ (by simp;lia),λl1 hl1=>?_⟩;rw[show(0+(k:Int)).toNat=k by lia,ybF];have t2:=t1.trans (yaa hl1 (.lst ((List.replicate k 0).map Vn)));have g1:upd (upd H5 z (.lst [V.int 0])) l1 (.lst ((List.replicate k 0).map Vn)) l1=some (.lst ((List.replicate k 0).map Vn)):=zaa;generalize upd (upd H5 z (.lst [V.int 0])) l1 (.lst ((List.replicate k 0).map Vn))=H6 at t2 g1 ⊢;refine⟨_,rfl,l1,mr,_,_,rfl,rfl,g1,t2 _ _ eM5,by rw[List.length_map,List.length_map,List.length_replicate,ml];exact szl _ (by lia),λl2 hl2=>?_⟩;rw[<-List.map_append];have t3:=t2.trans (yaa hl2 (.lst ((List.replicate k 0++mkL p m t root marks).map Vn)));have g2:upd H6 l2 (.lst ((List.replicate k 0++mkL p m t root marks).map Vn)) l2=some (.lst ((List.replicate k 0++mkL p m t root marks).map Vn)):=zaa;generalize upd H6 l2 (.lst ((List.replicate k 0++mkL p m t root marks).map Vn))=H7 at t3 g2 ⊢;refine⟨szl 1,λz2 hz2=>?_⟩;have t4:=yaa hz2 (.lst [V.int 0]);refine⟨_,rfl,_,rfl,_,_,rfl,rfl,_,rfl,mr,_,rfl,.inl (SqL.of (t4 _ _ (t3 _ _ eM5))),_,_,rfl,rfl,?_⟩;have ec:((n:Int)-(0+(k:Int))-(((mkL p m t root marks).map Vn).length:Int))=((n-k-(marks.length+1):Nat):Int):=by rw[List.length_map,ml];lia
  refine⟨z2,_,_,rfl,rfl,zaa,?_⟩;rw[ec];refine⟨by lia,by lia,by rw[Int.toNat_natCast];exact szl _ (by simp;lia),λl3 hl3=>?_⟩;rw[Int.toNat_natCast,ybF];have t5:=t4.trans (yaa hl3 (.lst ((List.replicate (n-k-(marks.length+1)) 0).map Vn)));have g3:upd (upd H7 z2 (.lst [V.int 0])) l3 (.lst ((List.replicate (n-k-(marks.length+1)) 0).map Vn)) l3=some (.lst ((List.replicate (n-k-(marks.length+1)) 0).map Vn)):=zaa;generalize upd (upd H7 z2 (.lst [V.int 0])) l3 (.lst ((List.replicate (n-k-(marks.length+1)) 0).map Vn))=H8 at t5 g3 ⊢;refine⟨l2,l3,_,_,rfl,rfl,t5 _ _ g2,g3,by simp only[List.length_map,List.length_append,List.length_replicate,ml];exact szl _ (by lia),λpt hpt=>?_⟩;rw[<-List.map_append];have t6:=(t3.trans t5).trans (yaa hpt (.lst ((mvL p m t root n marks k).map Vn)));have ePt:upd H8 pt (.lst ((mvL p m t root n marks k).map Vn)) pt=some (.lst ((mvL p m t root n marks k).map Vn)):=zaa;dsimp only[zaj];change tSeq _ _ _ _ (upd H8 pt (.lst ((mvL p m t root n marks k).map Vn)));generalize upd H8 pt (.lst ((mvL p m t root n marks k).map Vn))=H9 at t6 ePt ⊢;have s9':=s5.trans t6;have hT9:=hT.same t6;have ef9:=t6 _ _ ef;have eS9:=t6 _ _ eS5;have lpt:=zd7 (p:=p) (m:=m) (t:=t) (root:=root) (marks:=marks) hk;have hpt':∀x∈mvL p m t root n marks k,x<p^m:=yhb G (ybs G _);have hpz:∀k'∈marks,val p m t (pw p m t root k') (mvL p m t root n marks k)=0:=λk' hk'=>ydD G _ _ (yb9 G hk')
  clear t1 t2 t3 t4 t5 t6 g1 g2 g3;have hwl2:ws.length<=4096:=Nat.le_trans hwl (Nat.le_trans (Nat.pow_le_pow_right hq1 (by lia)) hsz);have hnext:(p^few)^(k+1)<=4096:=Nat.le_trans (Nat.pow_le_pow_right hq1 (by lia)) hsz;have hmore:∀j,j<=(lets p m t few).length->j*ws.length<=(p^few)^(k+1):=λj hj=>by
   rw[Nat.pow_succ,Nat.mul_comm];exact Nat.mul_le_mul hwl (Nat.le_trans hj hlets)
  refine⟨szl 0,λmo hmo=>?_⟩;have sm:=yaa hmo (.lst []);dsimp only[zaj];refine⟨_,rfl,so,rfl,⟨_,SqL.of (sm _ _ eS9)⟩,?_⟩
  let I4:Nat->St->Hp->Prop:=λj σ H'=>Same H9 H'/\Ex3 λ(es:List Addr) (s9 s10:Option V)=>An3 (H' mo=some (.lst (es.map V.ref))) (Tups H' es (((lets p m t few).take j).flatMap λc=>ws.map λu=>addL p m u (yat p m t c (mvL p m t root n marks k)))) (σ=[some (.ref tb),some (.ref wh),some (Vn n),some (.ref mr),some (.ref so),some (.ref fl),some (.int (0+(k:Int))),some (.ref pt),some (.ref mo),s9,s10])
  refine ydF (xs:=(lets p m t few).map Vn) I4 ⟨sm,[],_,_,zaa,⟨rfl,λi d e=>by simp at e⟩,rfl⟩ (λi σ H' _ h=>SqL.of (h.1 _ _ eS9)) ?_ ?_
  ·rintro j x σ H10 hx ⟨s10',es,s9x,s10x,em,hTv,rfl⟩;obtain⟨c,ec',rfl⟩:∃c,(lets p m t few)[j]?=some c/\x=Vn c:=by
    rw[List.getElem?_map]at hx;cases e:(lets p m t few)[j]? with
    |none=>rw[e]at hx;cases hx
    |some a=>rw[e]at hx;cases hx;exact⟨a,rfl,rfl⟩
   have hj:j<(lets p m t few).length:=(List.getElem?_eq_some_iff.mp ec').1;have hc:=zaM c (List.mem_of_getElem? ec');have T10:=T.same (s4.trans (s9'.trans s10'));have ePt10:=s10' _ _ ePt;refine⟨_,rfl,pt,rfl,⟨_,SqL.of ePt10⟩,?_⟩;refine zan (yaH (xs:=(mvL p m t root n marks k).map Vn)) (λi acc H'=>H'=H10/\acc=((List.range i).map λi=>mul p m t c ((mvL p m t root n marks k).getD i 0)).map Vn) ⟨rfl,rfl⟩ (λi acc H' _ h=>by rw[h.1];exact SqL.of ePt10) ?_ ?_ ?_
   ·rintro i acc H' hi ⟨_,rfl⟩;rw[List.length_map,lpt]at hi;rw[List.length_map,List.length_map,List.length_range];exact zai (by lia)
   ·rintro i acc z H11 H12 hi ⟨rfl,rfl⟩ ⟨rfl,ez⟩;rw[List.length_map]at hi;rw[zar hi]at ez;cases ez;refine⟨_,rfl,_,rfl,_,rfl,tb,fa,pa,la,p,m,t,b,c,(mvL p m t root n marks k).getD i 0,rfl,T10,hc,zaG hpt' hi,?_⟩;refine⟨rfl,?_⟩;rw[List.range_succ,List.map_append,List.map_append];rfl
   rw[List.length_map];rintro acc H11 ⟨rfl,rfl⟩ D hD;have sD:=yaa hD (.lst ((yat p m t c (mvL p m t root n marks k)).map Vn));have eD:upd H11 D (.lst ((yat p m t c (mvL p m t root n marks k)).map Vn)) D=some (.lst ((yat p m t c (mvL p m t root n marks k)).map Vn)):=zaa;dsimp only[zaj];change zh9 _ _ _ (upd H11 D (.lst ((yat p m t c (mvL p m t root n marks k)).map Vn)));generalize upd H11 D (.lst ((yat p m t c (mvL p m t root n marks k)).map Vn))=H12 at sD eD ⊢;have em12:=sD _ _ em;have hT12:=hT9.same (s10'.trans sD);have ef12:=sD _ _ (s10' _ _ ef9);have T12:=T10.same sD;refine⟨_,rfl,.inl ⟨rfl,_,SqL.of em12⟩,?_⟩;refine⟨_,rfl,fl,rfl,⟨_,SqL.of ef12⟩,?_⟩;refine zan (yaH (xs:=ds.map V.ref)) (λi acc H'=>Same H12 H'/\∃gs:List Addr,acc=gs.map V.ref/\Tups H' gs ((ws.take i).map λu=>addL p m u (yat p m t c (mvL p m t root n marks k)))) ⟨Same.refl _,[],rfl,⟨rfl,λi d e=>by simp at e⟩⟩ (λi acc H' _ h=>SqL.of (h.1 _ _ ef12)) ?_ ?_ ?_
   ·rintro i acc H' hi ⟨_,gs,rfl,hG⟩;have:=hG.1;rw[List.length_map,List.length_take]at this;rw[List.length_map];exact szl _ (show gs.length+1<=100000 by lia)
   ·rintro i acc z H13 H14 hi ⟨s13,gs,rfl,hG⟩ ⟨rfl,ez⟩;obtain⟨d,ed,rfl⟩:=zhS ez;obtain⟨u,eu,hu⟩:=hT12.2 i d ed;have hwu:=hw u (List.mem_of_getElem? eu);refine⟨_,rfl,_,rfl,_,rfl,tb,fa,pa,la,d,D,p,m,t,b,u,yat p m t c (mvL p m t root n marks k),rfl,T12.same s13,s13 _ _ hu,s13 _ _ eD,by lia,hwu.2.1,zbZ G _ _,λr H15 s15 _ e15=>?_⟩;refine⟨s13.trans s15,gs++[r],by simp,?_⟩;rw[zc0 eu,List.map_append];exact(hG.same s15).snoc e15
   rw[List.length_map,hT.1,List.take_length];rintro acc H13 ⟨s13,gs,rfl,hG⟩ D2 hD2;have sD2:=yaa hD2 (.lst (gs.map V.ref));have em13:=sD2 _ _ (s13 _ _ em12);have hgl:=hG.1;rw[List.length_map]at hgl;have hvl:=hTv.1;rw[zdB,List.length_take,Nat.min_eq_left (Nat.le_of_lt hj)]at hvl;have hvl2:=hmore (j+1) (by lia);rw[Nat.add_mul,Nat.one_mul]at hvl2;refine⟨mo,D2,_,_,rfl,rfl,em13,zaa,by rw[List.length_map,List.length_map,hvl,hgl];exact szl _ (by lia),?_⟩;rw[<-List.map_append];refine⟨zaX (s10'.trans (sD.trans (s13.trans sD2))) hmo,es++gs,_,_,zaa,?_,rfl⟩;rw[zc0 ec',List.flatMap_append,List.flatMap_singleton];exact Tups.at (((hTv.same sD).same (s13.trans sD2)).app (hG.same sD2)) em13
  ·rw[List.length_map];rintro σ H10 ⟨s10',es,s9x,s10x,em,hTv,rfl⟩;rw[List.take_length,ews]at hTv;exact⟨_,rfl,s9'.trans s10',mo,es,_,_,_,_,_,em,hTv,rfl⟩
 ·rw[Int.toNat_natCast];rintro σ H5 ⟨s5,fl,ds,s6,s7,s8,s9,s10,ef,hT,rfl⟩;exact⟨_,rfl,ret fl ds _ (s4.trans s5) ef hT⟩
theorem yfq{ns':List Int}{xs:List Nat}(h:ns'.Perm (xs.map λn:Nat=>(n:Int)))(ha:ns'.Pairwise (·<=·))(hd:xs.Nodup):∃ms:List Nat,ns'.map V.int=ms.map Vn/\ms.Pairwise (· < ·)/\∀x,x∈ms↔x∈xs:=by
 have hmem:∀i∈ns',∃n∈xs,(n:Int)=i:=λi hi=>List.mem_map.mp (h.mem_iff.mp hi)
 have hn:ns'.Nodup:=h.nodup_iff.mpr (by
  rw[List.Nodup,List.pairwise_map];exact hd.imp λhne e=>hne (Int.ofNat.inj e))
 refine⟨ns'.map Int.toNat,?_,?_,λx=>?_⟩
 ·rw[List.map_map];refine List.map_congr_left λi hi=>?_
  obtain⟨n,_,rfl⟩:=hmem i hi;rfl
 ·rw[List.pairwise_map];refine List.Pairwise.imp_of_mem ?_ (ha.and hn);intro a b h1 h2 h3;obtain⟨n1,_,rfl⟩:=hmem a h1;obtain⟨n2,_,rfl⟩:=hmem b h2;have:=h3.1;have h4:=h3.2;rw[Int.toNat_natCast,Int.toNat_natCast];have:n1≠n2:=λe=>h4 (by rw[e])
  lia
 ·rw[List.mem_map];constructor
  ·rintro⟨i,hi,rfl⟩;obtain⟨n,hn',rfl⟩:=hmem i hi;exact hn'
  ·intro hx;exact⟨(x:Int),h.mem_iff.mpr (List.mem_map.mpr ⟨x,hx,rfl⟩),rfl⟩
end
end My
end
section
namespace My
open PySem L2 Dg
theorem zhv{α β:Type}{f g:α->List β}:∀ {l:List α},(∀a∈l,f a=g a)->l.flatMap f=l.flatMap g
 | [],_=>rfl
 |a::l,h=>by rw[List.flatMap_cons,List.flatMap_cons,h a (List.mem_cons_self ..),zhv λb hb=>h b (List.mem_cons_of_mem _ hb)]
theorem yei{α:Type}[DecidableEq α]:∀ {l s:List α},l.Nodup->(∀x∈l,x∈s)->s.length<=l.length->l.Perm s
 | [],s,_,_,h=>by rw[List.length_eq_zero_iff.mp (Nat.le_zero.mp h)]
 |x::l,s,hd,hs,hl=>by
  have hd':=List.nodup_cons.mp hd;have hx:=hs x (List.mem_cons_self ..);have h1:=List.perm_cons_erase hx;refine List.Perm.trans (List.Perm.cons x (yei hd'.2 (λy hy=>?_) ?_)) h1.symm
  ·exact(List.mem_erase_of_ne (λe=>hd'.1 (by rw[<-e];exact hy))).mpr (hs y (List.mem_cons_of_mem _ hy))
  ·rw[List.length_erase_of_mem hx];rw[List.length_cons]at hl
   lia
theorem yfN{α:Type}{f:Nat->α->α}{ws:List α}(hw:ws.Nodup):∀ {cs:List Nat},cs.Nodup->(∀c∈cs,∀c'∈cs,∀u∈ws,∀v∈ws,f c u=f c' v->c=c'/\u=v)->(cs.flatMap λc=>ws.map (f c)).Nodup
 | [],_,_=>List.nodup_nil
 |c::cs,hc,h=>by
  have hc':=List.nodup_cons.mp hc;rw[List.flatMap_cons,List.nodup_append];refine⟨?_,yfN hw hc'.2 λa ha b hb=>h a (List.mem_cons_of_mem _ ha) b (List.mem_cons_of_mem _ hb),λx hx y hy e=>?_⟩
  ·rw[List.Nodup,List.pairwise_map];exact List.Pairwise.imp_of_mem (λ{u v} hu hv ne e=>ne (h c (List.mem_cons_self ..) c (List.mem_cons_self ..) u hu v hv e).2) hw
  ·obtain⟨u,hu,rfl⟩:=List.mem_map.mp hx;obtain⟨c',hc2,h2⟩:=List.mem_flatMap.mp hy;obtain⟨v,hv,rfl⟩:=List.mem_map.mp h2;have:=(h c (List.mem_cons_self ..) c' (List.mem_cons_of_mem _ hc2) u hu v hv e).1;rw[this]at hc';exact hc'.1 hc2
def allK(cs:List Nat):Nat->List (List Nat)
 |0=>[[]]
 |k+1=>(allK cs k).flatMap λv=>cs.map λc=>v++[c]
theorem zb7(cs:List Nat):∀k,(allK cs k).length=cs.length^k
 |0=>rfl
 |k+1=>by
  show(List.flatMap _ _).length=_;rw[List.length_flatMap,show(List.map (λv=>(cs.map λc=>v++[c]).length) (allK cs k))=(allK cs k).map λ_=>cs.length from List.map_congr_left λ_ _=>List.length_map _];rw[List.map_const',List.sum_replicate_nat,zb7 cs k,Nat.pow_succ]
theorem zeS(cs:List Nat):∀ {k:Nat} {v:List Nat},v∈allK cs k->v.length=k/\∀x∈v,x∈cs
 |0,v,h=>by cases List.mem_singleton.mp h;exact⟨rfl,λx hx=>nomatch hx⟩
 |k+1,v,h=>by
  obtain⟨u,hu,h2⟩:=List.mem_flatMap.mp h;obtain⟨c,hc,rfl⟩:=List.mem_map.mp h2;obtain⟨h3,h4⟩:=zeS cs hu;refine⟨by rw[List.length_append,h3];rfl,λx hx=>?_⟩;rcases List.mem_append.mp hx with hx|hx
  ·exact h4 x hx
  ·rw[List.mem_singleton.mp hx];exact hc
theorem yb5(cs:List Nat):∀ {k:Nat} {v:List Nat},v.length=k->(∀x∈v,x∈cs)->v∈allK cs k
 |0,v,h,_=>by rw[List.length_eq_zero_iff.mp h];exact List.mem_singleton.mpr rfl
 |k+1,v,h,hx=>by
  rcases List.eq_nil_or_concat v with rfl |⟨u,c,rfl⟩
  ·cases h
  ·rw[List.concat_eq_append]at h hx ⊢;rw[List.length_append,List.length_singleton]at h;exact List.mem_flatMap.mpr ⟨u,yb5 cs (by lia) λx hx'=>hx x (List.mem_append_left _ hx'),List.mem_map.mpr ⟨c,hx c (List.mem_append_right _ (List.mem_singleton.mpr rfl)),rfl⟩⟩
theorem zcU(p m t c:Nat)(xs:List Nat):yat p m t c xs=xs.map (mul p m t c):=by
 unfold yat;exact List.ext_getElem (by simp) λi h1 h2=>by simp[List.getD,show i<xs.length by simpa using h2]
theorem zdp(p m:Nat)(xs ys:List Nat):sums p m xs ys=List.zipWith (add p m) xs ys:=by
 unfold sums;refine List.ext_getElem (by simp) λi h1 h2=>?_
 have h3:i<xs.length/\i<ys.length:=by simpa[Nat.lt_min]using h2
 simp[List.getD,h3.1,h3.2]
section
variable {p m t few:Nat} (G:Good p m t)
include G
theorem zeX{x y:Nat}(hx:x∈lets p m t few)(hy:y∈lets p m t few):add p m x y∈lets p m t few:=by
 have bx:=zaM x hx;have b_y:=zaM y hy;rw[ya2 G bx]at hx;rw[ya2 G b_y]at hy;rw[ya2 G (ya8 G.hp G.hm _ _),G.frobN few bx b_y,hx,hy]
theorem yeX{x y:Nat}(hx:x∈lets p m t few)(hy:y∈lets p m t few):mul p m t x y∈lets p m t few:=by
 have bx:=zaM x hx;have b_y:=zaM y hy;rw[ya2 G bx]at hx;rw[ya2 G b_y]at hy;rw[ya2 G (yap G.hp G.hm _ _),yde G.hp G.hm,hx,hy]
theorem zeT:∀ {v:List Nat},(∀x∈v,x<p^m)->List.zipWith (add p m) v (List.replicate v.length 0)=v
 | [],_=>rfl
 |x::v,h=>by
  rw[List.length_cons,List.replicate_succ,List.zipWith_cons_cons,add_zero G.hp G.hm (h x (List.mem_cons_self ..)),zeT λy hy=>h y (List.mem_cons_of_mem _ hy)]
theorem yfG{v:List Nat}{fr k c:Nat}(hv:v.length=k)(hk:k<fr)(hx:∀x∈v,x<p^m)(hc:c<p^m):sums p m (v++List.replicate (fr-k) 0) (yat p m t c (unG fr k))=v++[c]++List.replicate (fr-(k+1)) 0:=by
 have hp:=G.hp;have hm:=G.hm;obtain⟨r,hr⟩:∃r,fr-k=r+1:=⟨fr-k-1,by lia⟩
 have z0:add p m 0 0=0:=add_zero hp hm (zae hp hm);rw[zdp,zcU];unfold unG;rw[show fr-k-1=r by lia,show fr-(k+1)=r by lia,hr,List.map_append,List.map_append,List.map_replicate,List.map_replicate,List.map_singleton,mul_zero hp hm,mul_one hp hm hc,List.append_assoc,List.append_assoc];rw[List.zipWith_append (by rw[List.length_replicate];exact hv)];congr 1
 ·rw[<-hv];exact zeT G hx
 ·rw[List.replicate_succ];show add p m 0 c::List.zipWith (add p m) (List.replicate r 0) (List.replicate r 0)=c::List.replicate r 0;rw[zero_add hp hm hc,List.zipWith_replicate,z0,Nat.min_self]
theorem yhc{root n fr:Nat}{marks:List Nat}(hfr:fr+marks.length=n):∀k,k<=fr->WOk p m t root n marks (wdL p m t root marks few fr k)
 |0,_=>λu hu=>by
  have uz:∀x∈List.replicate fr 0,x<p^m:=λx hx=>by rw[List.eq_of_mem_replicate hx];exact zae G.hp G.hm
  cases List.mem_singleton.mp hu;exact⟨by rw[ycd G uz,List.length_replicate];lia,yd9 G uz,λk hk=>ydA G uz hk⟩
 |k+1,hk=>λu hu=>by
  obtain⟨v,hv,h1⟩:=List.mem_flatMap.mp hu;obtain⟨y,hy,rfl⟩:=List.mem_map.mp h1;obtain⟨c,_,rfl⟩:=List.mem_map.mp hy;exact WOk.more G (c:=c) (yhc hfr k (by lia)) (by rw[ycd G (zck G),zdu (by lia)];lia) (yd9 G (zck G)) (λk' hk'=>ydA G (zck G) hk') _ (List.mem_map.mpr ⟨v,hv,rfl⟩)
theorem yfR{root n fr:Nat}{marks:List Nat}(hfr:fr+marks.length=n):∀k,k<=fr->(wdL p m t root marks few fr k).map (List.drop marks.length)=(allK (lets p m t few) k).map λv=>v++List.replicate (fr-k) 0
 |0,_=>by
  have uz:∀x∈List.replicate fr 0,x<p^m:=λx hx=>by rw[List.eq_of_mem_replicate hx];exact zae G.hp G.hm
  show [_]=[_]
  rw[ydv G uz];rfl
 |k+1,hk=>by
  have ih:=yfR (root:=root) hfr k (by lia);show((wdL p m t root marks few fr k).flatMap λu=>(mulR p m t root marks few fr k).map (sums p m u)).map (List.drop marks.length)=((allK (lets p m t few) k).flatMap λv=>(lets p m t few).map λc=>v++[c]).map λv=>v++List.replicate (fr-(k+1)) 0
  rw[List.map_flatMap,List.map_flatMap];have e1:((wdL p m t root marks few fr k).flatMap λu=>((mulR p m t root marks few fr k).map (sums p m u)).map (List.drop marks.length))=((wdL p m t root marks few fr k).map (List.drop marks.length)).flatMap λx=>(lets p m t few).map λc=>sums p m x (yat p m t c (unG fr k)):=by
   rw[List.flatMap_map];refine zhv λu _=>?_
   unfold mulR;rw[List.map_map,List.map_map];refine List.map_congr_left λc _=>?_
   show(sums p m u (yat p m t c (mdL p m t root marks (unG fr k)))).drop marks.length=_;rw[zdp,zdp,List.drop_zipWith,zcU,zcU,<-List.map_drop,ydv G (zck G)]
  rw[e1,ih,List.flatMap_map];refine zhv λv hv=>?_
  obtain⟨h1,h2⟩:=zeS _ hv;rw[List.map_map];exact List.map_congr_left λc hc=>yfG G h1 (by lia) (λx hx=>zaM x (h2 x hx)) (zaM c hc)
theorem zgF{root n:Nat}{marks:List Nat}(W:Whl p m t few root n marks):∀x∈mkL p m t root marks,x∈lets p m t few:=λx hx=>by
 have h1:=zap G.hp G.hm;rw[ya2 G (ybs G marks x hx)];refine zfY G W (ybs G marks) (λk hk=>yb9 G hk) (λy hy=>?_) x hx;have ml:=zaN p m t root marks;have e:(mkL p m t root marks).drop marks.length=[1]:=by
  refine List.ext_getElem (by rw[List.length_drop,ml,List.length_singleton];lia) λi a1 a2=>?_
  have:i=0:=by rw[List.length_singleton]at a2;lia
  subst this;have:=yb4 G root marks;rw[List.getD_eq_getElem?_getD,List.getElem?_eq_getElem (by lia)]at this;rw[List.getElem_drop]
  simpa using this
 rw[e]at hy;rw[List.mem_singleton.mp hy,ybO G.hp G.hm]
theorem yb1{root n:Nat}{marks:List Nat}(W:Whl p m t few root n marks):∀k,∀u∈lwL p m t root n marks few k,∀x∈u,x∈lets p m t few
 |0,u,hu,x,hx=>by
  cases List.mem_singleton.mp hu;rw[List.eq_of_mem_replicate hx,ya2 G (zae G.hp G.hm)];obtain⟨q,e⟩:∃q,p^few=q+1:=⟨p^few-1,by have:0<p^few:=Nat.pow_pos (by have:=G.hp;lia);lia⟩
  rw[e];exact yby G.hp G.hm q
 |k+1,u,hu,x,hx=>by
  have z:(0:Nat)∈lets p m t few:=yb1 W 0 _ (List.mem_singleton.mpr rfl) 0 (List.mem_replicate.mpr ⟨by have:=W.ord.pos;lia,rfl⟩);obtain⟨c,hc,h2⟩:=List.mem_flatMap.mp hu;obtain⟨v,hv,rfl⟩:=List.mem_map.mp h2;obtain⟨i,hi,rfl⟩:=List.mem_map.mp hx;have hi:=List.mem_range.mp hi;have h3:∀ {l:List Nat} {j:Nat},(∀y∈l,y∈lets p m t few)->l.getD j 0∈lets p m t few:=λ{l j} h=>by
   by_cases hj:j<l.length
   ·rw[show l.getD j 0=l[j] by simp[List.getD,hj]];exact h _ (List.getElem_mem hj)
   ·rw[show l.getD j 0=0 by simp[List.getD,Nat.le_of_not_lt hj]];exact z
  refine zeX G (h3 (yb1 W k v hv)) (h3 λy hy=>?_);obtain⟨j,_,rfl⟩:=List.mem_map.mp hy;refine yeX G hc (h3 λy hy=>?_);unfold mvL padL at hy;simp only[List.mem_append,List.mem_replicate]at hy;rcases hy with(⟨_,rfl⟩|hy) |⟨_,rfl⟩
  ·exact z
  ·exact zgF G W y hy
  ·exact z
theorem ycs{n i:Nat}{xs ys:List Nat}(h1:xs.length=n)(h2:ys.length=n)(hi:i<n):(addL p m xs ys).getD i 0=add p m (xs.getD i 0) (ys.getD i 0):=by
 unfold addL;rw[List.getD_eq_getElem?_getD,List.getElem?_map,List.getElem?_range (by lia)];rfl
theorem ybL{c n i:Nat}{xs:List Nat}(h1:xs.length=n)(hi:i<n):(yat p m t c xs).getD i 0=mul p m t c (xs.getD i 0):=by
 unfold yat;rw[List.getD_eq_getElem?_getD,List.getElem?_map,List.getElem?_range (by lia)];rfl
theorem zik{root n k:Nat}{marks:List Nat}(hk:k<n-marks.length):(mvL p m t root n marks k).getD (marks.length+k) 0=1:=by
 unfold mvL padL;have ml:=zaN p m t root marks;rw[List.getD_eq_getElem?_getD,List.getElem?_append_left (by rw[List.length_append,List.length_replicate,ml];lia),List.getElem?_append_right (by rw[List.length_replicate];lia),List.length_replicate,show marks.length+k-k=marks.length by lia,<-List.getD_eq_getElem?_getD,yb4 G]
theorem yhJ{root n k i:Nat}{marks:List Nat}(hi:marks.length+k<i):(mvL p m t root n marks k).getD i 0=0:=by
 unfold mvL padL;have ml:=zaN p m t root marks;rw[List.getD_eq_getElem?_getD,List.getElem?_append_right (by rw[List.length_append,List.length_replicate,ml];lia)];by_cases h:i-(List.replicate k 0++mkL p m t root marks).length<n-k-(marks.length+1)
 ·rw[List.getElem?_replicate,if_pos h];rfl
 ·rw[List.getElem?_replicate,if_neg h];rfl
theorem zeu{root n:Nat}{marks:List Nat}:∀k,k<=n-marks.length->∀u∈lwL p m t root n marks few k,∀i,marks.length+k<=i->u.getD i 0=0
 |0,_,u,hu,i,_=>by
  cases List.mem_singleton.mp hu;rw[List.getD_eq_getElem?_getD,List.getElem?_replicate];split <;> rfl
 |k+1,hk,u,hu,i,hi=>by
  obtain⟨c,hc,h2⟩:=List.mem_flatMap.mp hu;obtain⟨v,hv,rfl⟩:=List.mem_map.mp h2;have hv1:=(ybZ (root:=root) (marks:=marks) (few:=few) G k (by lia) v hv).1;have lp:(yat p m t c (mvL p m t root n marks k)).length=n:=by rw[ybv];exact zd7 (by lia)
  by_cases hin:i<n
  ·rw[ycs G hv1 lp hin,zeu k (by lia) v hv i (by lia),ybL G (zd7 (by lia)) hin,yhJ G (by lia),mul_zero G.hp G.hm,add_zero G.hp G.hm (zae G.hp G.hm)]
  ·rw[List.getD_eq_getElem?_getD,List.getElem?_eq_none (by rw[zb8 hv1 lp];lia)];rfl
theorem zgL{root n:Nat}{marks:List Nat}:∀k,k<=n-marks.length->(lwL p m t root n marks few k).Nodup
 |0,_=>List.nodup_cons.mpr ⟨List.not_mem_nil,List.nodup_nil⟩
 |k+1,hk=>by
  have hp:=G.hp;have hm:=G.hm;refine yfN (zgL k (by lia)) (List.Pairwise.filter _ (List.pairwise_lt_range.imp λh=>by lia)) λc hc c' hc' u hu v hv e=>?_
  have hu1:=ybZ (root:=root) (marks:=marks) (few:=few) G k (by lia) u hu;have hv1:=ybZ (root:=root) (marks:=marks) (few:=few) G k (by lia) v hv;have lm:(mvL p m t root n marks k).length=n:=zd7 (by lia);have lp:∀c,(yat p m t c (mvL p m t root n marks k)).length=n:=λc=>by rw[ybv];exact lm
  have at_:∀i,i<n->add p m (u.getD i 0) (mul p m t c ((mvL p m t root n marks k).getD i 0))=add p m (v.getD i 0) (mul p m t c' ((mvL p m t root n marks k).getD i 0)):=λi hi=>by
   have:=congrArg (λl:List Nat=>l.getD i 0) e
   try dsimp only at this
   rw[ycs G hu1.1 (lp c) hi,ycs G hv1.1 (lp c') hi,ybL G lm hi,ybL G lm hi]at this;exact this
  have ec:c=c':=by
   have:=at_ (marks.length+k) (by lia);rw[zik G (by lia),zeu G k (by lia) u hu _ (Nat.le_refl _),zeu G k (by lia) v hv _ (Nat.le_refl _),mul_one hp hm (zaM c hc),mul_one hp hm (zaM c' hc'),zero_add hp hm (zaM c hc),zero_add hp hm (zaM c' hc')]at this;exact this
  subst ec;refine⟨rfl,List.ext_getElem (hu1.1.trans hv1.1.symm) λi a1 a2=>?_⟩;have h1:=at_ i (by lia);have g:∀ {l:List Nat} (h:i<l.length),l.getD i 0=l[i]:=λh=>by simp[List.getD,h]
  rw[g a1,g a2]at h1;have h2:=congrArg (λx=>sub p m x (mul p m t c ((mvL p m t root n marks k).getD i 0))) h1
  rwa [zbe hp hm (hu1.2.1 _ (List.getElem_mem a1)),zbe hp hm (hv1.2.1 _ (List.getElem_mem a2))]at h2
theorem yfc{root n fr:Nat}{marks:List Nat}(W:Whl p m t few root n marks)(hfr:fr+marks.length=n):(wdL p m t root marks few fr fr).Perm (lwL p m t root n marks few fr):=by
 have back:∀ {l:List (List Nat)},WOk p m t root n marks l->(l.map (List.drop marks.length)).map (mdL p m t root marks)=l:=λ{l} h=>by
  rw[List.map_map]
  conv=>rhs;rw[<-List.map_id l]
  exact List.map_congr_left λu hu=>ydq G W (h u hu).1 (by lia) (h u hu).2.1 (h u hu).2.2
 have hA:=yhc (few:=few) (root:=root) G hfr fr (Nat.le_refl _);have hB:=ybZ (root:=root) (marks:=marks) (n:=n) (few:=few) G fr (by lia);have eA:=yfR (few:=few) (root:=root) G hfr fr (Nat.le_refl _);rw[Nat.sub_self]at eA;have eA2:(wdL p m t root marks few fr fr).map (List.drop marks.length)=allK (lets p m t few) fr:=by
  rw[eA]
  conv=>rhs;rw[<-List.map_id (allK (lets p m t few) fr)]
  exact List.map_congr_left λv _=>List.append_nil v
 have hBp:((lwL p m t root n marks few fr).map (List.drop marks.length)).Perm (allK (lets p m t few) fr):=by
  refine yei ?_ (λv hv=>?_) ?_
  ·rw[List.Nodup,List.pairwise_map];refine List.Pairwise.imp_of_mem (λ{u v} hu hv ne e=>ne ?_) (zgL G fr (by lia));have h1:=hB u hu;have h2:=hB v hv;rw[<-ydq G W h1.1 (by lia) h1.2.1 h1.2.2,e,ydq G W h2.1 (by lia) h2.2.1 h2.2.2]
  ·obtain⟨u,hu,rfl⟩:=List.mem_map.mp hv;exact yb5 _ (by rw[List.length_drop,(hB u hu).1];lia) λx hx=>yb1 G W fr u hu x (List.mem_of_mem_drop hx)
  ·rw[List.length_map,zb7,ycA];exact Nat.le_refl _
 have h:=(eA2 ▸ hBp.symm:((wdL p m t root marks few fr fr).map (List.drop marks.length)).Perm _).map (mdL p m t root marks)
 rwa [back hA,back hB]at h
end
end My
end
section
namespace My
open PySem L2 Dg
def wt(ns:List Nat):Nat:=(ns.filter (·≠0)).length
theorem ygF(xs:List Nat):wt xs<=xs.length:=List.length_filter_le _ _
theorem yfH{xs:List Nat}{k:Nat}(h:(xs.map Vn)[k]?=some z):∃h:k<xs.length,z=Vn xs[k]:=by
 rw[List.getElem?_map]at h;rcases hk:xs[k]? with _|v
 ·rw[hk]at h;cases h
 ·rw[hk]at h;obtain⟨h1,h2⟩:=List.getElem?_eq_some_iff.mp hk;exact⟨h1,by rw[h2];exact(Option.some.inj h).symm⟩
def hst(n:Nat)(rs:List (List Nat)):List Nat:=(List.range (n+1)).map λw=>rs.countP λr=>wt r==w
theorem ycz(n:Nat)(rs:List (List Nat)):(hst n rs).length=n+1:=by simp[hst]
theorem yeM{n:Nat}{rs qs:List (List Nat)}(h:rs.Perm qs):hst n rs=hst n qs:=List.map_congr_left λw _=>h.countP_eq _
theorem yew(n:Nat):hst n []=List.replicate (n+1) 0:=by
 unfold hst;simp only[List.countP_nil];rw[List.map_const',List.length_range]
theorem zhF{n w:Nat}{rs:List (List Nat)}(h:w<=n):(hst n rs).getD w 0=rs.countP λr=>wt r==w:=by
 unfold hst;rw[List.getD_eq_getElem?_getD,List.getElem?_map,List.getElem?_range (by lia)];rfl
theorem zeL{n:Nat}{rs:List (List Nat)}{r:List Nat}(h:wt r<=n):(hst n rs).set (wt r) ((hst n rs).getD (wt r) 0+1)=hst n (rs++[r]):=by
 refine List.ext_getElem (by rw[List.length_set,ycz,ycz]) λi a1 a2=>?_
 rw[ycz]at a2;have g:∀ {rs:List (List Nat)} (q:i<(hst n rs).length),(hst n rs)[i]=rs.countP λr=>wt r==i:=λq=>by simp[hst]
 rw[List.getElem_set,g,g,zhF h,List.countP_append];by_cases c:wt r=i
 ·subst c;rw[if_pos rfl,List.countP_cons_of_pos (by simp)];rfl
 ·rw[if_neg c,List.countP_cons_of_neg (by simpa using c)];rfl
end My
end
section
namespace My
open PySem L2 Dg
theorem yg1{K:PySem.W.Frag}(hl:H l=some (.lst zs))(h:SqT K H d xs):SqT K (upd H l o) d xs:=by
 rcases h with(h |⟨o',h⟩)|h
 ·exact .inl (.inl (by rw[zad (λe=>by rw[e,hl]at h;cases h)];exact h))
 ·exact .inl (.inr ⟨o',by rw[zad (λe=>by rw[e,hl]at h;cases h)];exact h⟩)
 ·exact .inr h
theorem Rws.atL{K:PySem.W.Frag}(hl:H l=some (.lst zs)):∀ {ds:List Addr} {rs:List (List Nat)},Rws K H ds rs->Rws K (upd H l o) ds rs
 | [],[],_=>trivial
 |_::_,_::_,h=>⟨yg1 hl h.1,Rws.atL hl h.2⟩
 | [],_::_,h=>h.elim
 |_::_,[],h=>h.elim
section
variable {P:Program} {w:World} {mg:Str->Option Value} {base:Heap} {f:Addr} {fd:FuncData}
inductive zc4 (K:PySem.W.Frag) (vs:List V) (H:Hp) (Q:VK) (E:XK):Prop
 |mk (a:Addr) (ns:List Nat) (c1:vs=[.ref a]) (c2:SqT K H a (ns.map Vn)) (c3:ns.length<=1000) (c4:∀H',Same H H'->Q (Vn (wt ns)) H'):zc4 K vs H Q E
theorem yfx:yad ["word"] ["word"] (zac zcr):=⟨rfl,rfl,rfl,by decide +kernel,rfl,by decide +kernel,by decide +kernel⟩
theorem yfP(B:Bl mg)(F:Fun K "weight" "weight" zcr f fd):FnOk P w K mg base CX0 1 f fd ["word"] (zc4 K):=by
 refine F.ok yfx (λvs H Q E h=>?_) (λcdv A outer s H vs Q E hr h=>?_)
 ·obtain⟨a,ns,rfl,_⟩:=h;rfl
 obtain⟨a,ns,rfl,hF,hn,q⟩:=h;refine⟨_,(~~~((yae>>>("len",PySem.boot_len,((["thing"]⊆([],[],["word"],zcr,(@yb0 _ _ _ _ (pv 0)),(0⊇["thing"]),(@ycr _ _ _ (zd2∪(pv 0)∪yab)),(pv 0)))>=>zab)))⁻¹)),?_⟩
 try dsimp only[cxOf]
 refine⟨_,rfl,a,rfl,⟨_,hF⟩,?_⟩;refine zan (zaW (xs:=ns.map Vn)) (λk acc H'=>H'=H/\acc=((ns.take k).filter (·≠0)).map Vn) ⟨rfl,rfl⟩ (λi acc H' _ h=>h.1 ▸ hF) ?_ ?_ ?_
 ·rintro k acc H' hk ⟨_,rfl⟩;have:=ygF (ns.take k);rw[List.length_take]at this;rw[List.length_map];exact zai (by unfold wt at this;lia)
 ·rintro k acc z H1 H2 hk ⟨rfl,rfl⟩ ⟨rfl,ez⟩;obtain⟨hk',rfl⟩:=yfH ez;refine⟨_,rfl,rfl,_,rfl,?_⟩;have e:ns.take (k+1)=ns.take k++[ns[k]]:=by rw[List.take_succ_eq_append_getElem hk']
  refine ite2 (λc=>?_) (λc=>?_)
  ·refine⟨_,rfl,rfl,?_⟩;have c':ns[k]≠0:=by simpa using c
   rw[e,List.filter_append,List.map_append];simp[c']
  ·refine⟨rfl,?_⟩;have c':ns[k]=0:=by simpa using c
   rw[e,List.filter_append];simp[c']
 ·rintro acc H1 ⟨rfl,rfl⟩ D hD;refine⟨D,_,rfl,.inl (SqL.of zaa),?_⟩;rw[List.length_map,List.length_map,List.take_length];exact q _ (yaa hD _)
inductive ycB (K:PySem.W.Frag) (vs:List V) (H:Hp) (Q:VK) (E:XK):Prop
 |mk (wh fa mk:Addr) (p m t few root n fr:Nat) (marks:List Nat) (c1:vs=[.ref wh]) (c2:WQ K wh fa mk p m t few root n fr marks H) (c3:(p^few)^fr<=4096) (c4:∀(r:Addr) (H':Hp),Same H H'->SqT K H' r ((hst n (wdL p m t root marks few fr fr)).map Vn)->Q (.ref r) H'):ycB K vs H Q E
theorem WQ.same{p m t few root n fr:Nat}{marks:List Nat}(h:WQ K wh fa mk p m t few root n fr marks H)(s:Same H H'):WQ K wh fa mk p m t few root n fr marks H':=⟨h.1.same s,Same.tup s h.2.1,h.2.2⟩
theorem ycx:yad ["wheel","found","word"] ["wheel"] (zac ydz):=⟨rfl,rfl,rfl,by decide +kernel,rfl,by decide +kernel,by decide +kernel⟩
theorem zfs(B:Bl mg)(h_length:Has P w K mg base 5 "length" ["wheel"] (zbY K))(h_words:Has P w K mg base 9 "words" ["wheel"] (ydI K))(h_weight:Has P w K mg base 1 "weight" ["word"] (zc4 K))(F:Fun K "counts" "counts" ydz f fd):FnOk P w K mg base CX0 10 f fd ["wheel"] (ycB K):=by
 refine F.ok ycx (λvs H Q E h=>?_) (λcdv A outer s H vs Q E hr h=>?_)
 ·obtain⟨wh,fa,mk,p,m,t,few,root,n,fr,marks,rfl,_⟩:=h;rfl
 obtain⟨wh,fa,mk,p,m,t,few,root,n,fr,marks,rfl,hWQ,hz,q⟩:=h;obtain⟨hW,hF,G,h0,hq,o,hfr,hn,hmf,hf1,hpf⟩:=id hWQ;refine⟨_,((1<|>ycx.nd<|>(zcn|||(@zaq _ _ _ _ (yab>=>zab))|||(yag|||(h_length<$>((pv 0)>=>zab))|||yab)))<=<((@yb0 _ _ _ _ (h_words<$>((pv 0)>=>zab)))<&>((2&&&ycx.nd),(~~~(yht (pv 1) (zdo h_weight hr (by decide) rfl (ybm (pv 2) zab)) ygL yab ycG zaP))))<=<(~~~((yak<*("tuple",yai,((pv 1)>=>zab)))⁻¹))),?_⟩
 try dsimp only[cxOf]
 refine⟨szl 1,λz0 hz0=>?_⟩;have s0:=yaa hz0 (.lst [V.int 0]);refine⟨_,rfl,wh,fa,p,m,t,few,root,.ref mk,rfl,SqT.of (hW.same s0).w,Same.tup s0 hF,G,h0,hq,λn' o' _=>?_⟩;cases o'.uniq o;refine⟨_,_,rfl,rfl,z0,_,_,rfl,rfl,zaa,by lia,by lia,by rw[show((n:Int)+1).toNat=n+1 by lia];exact szl _ (by simp;lia),λfl hfl=>?_⟩;rw[show((n:Int)+1).toNat=n+1 by lia,ybF,<-yew];have s1:=s0.trans (yaa hfl (.lst ((hst n []).map Vn)));have flH:H fl=none:=s0.free hfl;have efl:upd (upd H z0 (.lst [V.int 0])) fl (.lst ((hst n []).map Vn)) fl=some (.lst ((hst n []).map Vn)):=zaa;dsimp only[zaj];change tSeq _ _ _ _ (upd (upd H z0 (.lst [V.int 0])) fl (.lst ((hst n []).map Vn)));generalize upd (upd H z0 (.lst [V.int 0])) fl (.lst ((hst n []).map Vn))=H1 at s1 efl ⊢;refine⟨_,rfl,wh,fa,mk,p,m,t,few,root,n,fr,marks,rfl,hWQ.same s1,hz,λr ds rs H2 s2 hr2 hR hP=>?_⟩;refine⟨r,rfl,⟨_,hr2⟩,?_⟩;have wl:rs.length<=4096:=by rw[hP.length_eq,yc1,zep G hmf hf1];exact hz
 have wr:∀u∈rs,u.length=n:=λu hu=>(zeq G hfr fr (Nat.le_refl _) u (hP.mem_iff.mp hu)).1
 have rl:=hR.len
 let I1:Nat->St->Hp->Prop:=λi σ H'=>Same H H'/\SqT K H' r (ds.map V.ref)/\Rws K H' ds rs/\H' fl=some (.lst ((hst n (rs.take i)).map Vn))/\∃v2,σ=[some (.ref wh),some (.ref fl),v2]
 refine yaG (zaW (xs:=ds.map V.ref)) I1 ⟨s1.trans s2,hr2,hR,s2 _ _ efl,_,rfl⟩ (λ_ _ _ _ h=>h.2.1) ?_ ?_
 ·rintro i x σ H3 H3' hi ⟨s3,hr3,hR3,e3,v2,rfl⟩ ⟨rfl,ez⟩;rw[List.length_map,rl]at hi;obtain⟨d,ed,hd⟩:=hR3.get hi;rw[List.getElem?_map,ed]at ez;cases ez;obtain⟨u,eu⟩:∃u,u=rs.getD i []:=⟨_,rfl⟩
  have hu:u∈rs:=by rw[eu];simp[List.getD,hi]
  rw[<-eu]at hd;have hwu:wt u<=n:=by have:=ygF u;rw[wr u hu]at this;exact this
  dsimp only[zaj];refine⟨_,rfl,_,rfl,d,u,rfl,hd,by rw[wr u hu];lia,λH4 s4=>?_⟩;have e4:=s4 _ _ e3;have wl2:wt u<(hst n (rs.take i)).length:=by rw[ycz];lia
  refine⟨fl,_,_,_,rfl,rfl,by lia,SqL.of e4,zaz (zar wl2),_,_,rfl,rfl,?_⟩;refine⟨fl,_,_,wt u,rfl,rfl,e4,by rw[List.length_map];exact zd9 wl2,?_⟩;refine⟨zaX (s3.trans s4) flH,yg1 e4 (Same.tup s4 hr3),(hR3.same s4).atL e4,?_,_,rfl⟩;rw[zaa,ya3 (d:=[]) hi,<-eu,<-zeL hwu,List.map_set];rfl
 ·rw[List.length_map,rl];rintro σ H3 ⟨s3,hr3,hR3,e3,v2,rfl⟩;rw[List.take_length,yeM hP]at e3;refine⟨_,rfl,fl,_,rfl,.inl ⟨SqL.of e3,λtp htp=>?_⟩⟩;exact q tp _ (s3.trans (yaa htp _)) (SqT.of zaa)
end
end My
end
section
namespace My
open PySem L2 Dg
theorem ygn{α:Type}(P Q:α->Bool):∀l:List α,(l.filter P).length+(l.filter Q).length=(l.filter λx=>P x||Q x).length+(l.filter λx=>P x&&Q x).length
 | []=>rfl
 |x::l=>by
  have ih:=ygn P Q l;cases hP:P x <;> cases hQ:Q x <;> simp only[List.filter_cons,hP,hQ,Bool.or_self,Bool.and_self,Bool.or_true,Bool.or_false,Bool.and_true,Bool.and_false,Bool.false_eq_true,if_true,if_false,List.length_cons] <;> lia
theorem yd4{α:Type}(P:α->Bool):∀l:List α,l.length=(l.filter P).length+(l.filter λx=>!P x).length
 | []=>rfl
 |x::l=>by
  have ih:=yd4 P l;cases hP:P x <;> simp only[List.filter_cons,hP,Bool.not_true,Bool.not_false,Bool.false_eq_true,if_true,if_false,List.length_cons] <;> lia
theorem yeS{α β:Type}[DecidableEq β]{f:α->β}{N:Nat}:∀ {T:List β} {P:List α},(∀x∈P,f x∈T)->(∀y,(P.filter λx=>decide (f x=y)).length<=N)->P.length<=T.length*N
 | [],P,h,_=>by
  cases P with
  |nil=>exact Nat.zero_le _
  |cons x P=>exact absurd (h x List.mem_cons_self) List.not_mem_nil
 |y::T,P,h,hN=>by
  have h1:=yeS (T:=T) (P:=P.filter λx=>!decide (f x=y)) (λx hx=>by
   obtain⟨h2,h3⟩:=List.mem_filter.mp hx;rcases List.mem_cons.mp (h x h2) with e|e
   ·rw[decide_eq_true e]at h3;cases h3
   ·exact e) λz=>by
   refine Nat.le_trans ?_ (hN z);rw[List.filter_filter];refine List.Sublist.length_le ?_;rw[<-List.filter_filter];refine List.Sublist.filter _ List.filter_sublist
  have h2:=hN y;have h3:P.length=(P.filter λx=>decide (f x=y)).length+(P.filter λx=>!decide (f x=y)).length:=by
   exact yd4 (λx=>decide (f x=y)) P
  rw[List.length_cons,Nat.succ_mul]
  lia
section
variable {p m t:Nat} (G:Good p m t)
include G
theorem zhw{few root n fr:Nat}{marks:List Nat}(W:Whl p m t few root n marks)(hfr:fr+marks.length=n){u:List Nat}(hl:u.length=n)(hu:∀x∈u,x∈lets p m t few)(hz:∀k∈marks,val p m t (pw p m t root k) u=0):u∈lwL p m t root n marks few fr:=by
 have hok:=ybZ (root:=root) (marks:=marks) (n:=n) (few:=few) G fr (by lia);have hP:((lwL p m t root n marks few fr).map (List.drop marks.length)).Perm (allK (lets p m t few) fr):=by
  refine yei ?_ (λv hv=>?_) (by rw[zb7,List.length_map,ycA];exact Nat.le_refl _)
  ·rw[List.Nodup,List.pairwise_map];refine List.Pairwise.imp_of_mem (λ{a b} ha hb ne e=>ne ?_) (zgL G fr (by lia));exact zb6 G W ((hok a ha).1.trans (hok b hb).1.symm) (hok a ha).2.1 (hok b hb).2.1 e (hok a ha).2.2 (hok b hb).2.2
  ·obtain⟨v',hv',rfl⟩:=List.mem_map.mp hv;exact yb5 _ (by rw[List.length_drop,(hok v' hv').1];lia) λx hx=>yb1 G W fr v' hv' x (List.mem_of_mem_drop hx)
 obtain⟨v,hv,e⟩:=List.mem_map.mp (hP.mem_iff.mpr (yb5 _ (show(u.drop marks.length).length=fr by rw[List.length_drop];lia) λx hx=>hu x (List.mem_of_mem_drop hx)));have:=zb6 G W ((hok v hv).1.trans hl.symm) (hok v hv).2.1 (λx hx=>zaM x (hu x hx)) e (hok v hv).2.2 hz;rw[<-this];exact hv
theorem zib{few root n fr:Nat}{marks:List Nat}(W:Whl p m t few root n marks)(hfr:fr+marks.length=n)(u:List Nat):u∈lwL p m t root n marks few fr↔u.length=n/\(∀x∈u,x∈lets p m t few)/\∀k∈marks,val p m t (pw p m t root k) u=0:=by
 refine⟨λh=>?_,λh=>zhw G W hfr h.1 h.2.1 h.2.2⟩;have hok:=ybZ (root:=root) (marks:=marks) (n:=n) (few:=few) G fr (by lia) u h;exact⟨hok.1,yb1 G W fr u h,hok.2.2⟩
theorem ygt{few:Nat}:sub p m 0 1∈lets p m t few:=by
 have hp:=G.hp;have hm:=G.hm;have h1:=zap hp hm;have h0:=zae hp hm;have bs:=zby hp hm 0 1;rw[ya2 G bs];obtain⟨q,eq⟩:∃q,p^few=q+1:=⟨p^few-1,by have:0<p^few:=Nat.pow_pos (by lia);lia⟩
 have e:=G.frobN few bs h1;rw[ybB hp hm h0,ybO hp hm,eq,yby hp hm,<-eq]at e;have:=zbe hp hm (x:=pw p m t (sub p m 0 1) (p^few)) (y:=1) (yaw hp hm _ _);rw[<-e]at this;exact this.symm
theorem zdE{x:Nat}(hx:x<p^m):add p m x (mul p m t (sub p m 0 1) x)=0:=by
 have hp:=G.hp;have hm:=G.hm;have h:=mul_add hp hm (t:=t) x 1 (sub p m 0 1);rw[add_comm hp hm,ybB hp hm (zae hp hm),mul_zero hp hm,mul_one hp hm hx,mul_comm hp hm]at h;exact h.symm
def dif(p m t:Nat)(a b:List Nat):List Nat:=addL p m a (yat p m t (sub p m 0 1) b)
noncomputable def CW(p m t root n few:Nat)(M:List Nat)(u:List Nat):Prop:=u.length=n/\(∀x∈u,x∈lets p m t few)/\∀k∈M,val p m t (pw p m t root k) u=0
theorem CW.lt{root n few:Nat}{M u:List Nat}(h:CW p m t root n few M u):∀x∈u,x<p^m:=λx hx=>zaM x (h.2.1 x hx)
theorem ze2{l:List Nat}{i:Nat}(h:i<l.length):l.getD i 0∈l:=by
 rw[show l.getD i 0=l[i] by simp[List.getD,h]];exact List.getElem_mem h
theorem CW.add{root n few:Nat}{M M' u v:List Nat}(hu:CW p m t root n few M u)(hv:CW p m t root n few M v):CW p m t root n few M (addL p m u v):=by
 refine⟨zb8 hu.1 hv.1,λx hx=>?_,λk hk=>?_⟩
 ·obtain⟨i,hi,rfl⟩:=List.mem_map.mp hx;have hi:=List.mem_range.mp hi;exact zeX G (hu.2.1 _ (ze2 G (by lia))) (hv.2.1 _ (ze2 G (by lia)))
 ·rw[zdw G (yaw G.hp G.hm _ _) hu.1 hv.1 (hu.lt G) (hv.lt G),hu.2.2 k hk,hv.2.2 k hk,add_zero G.hp G.hm (zae G.hp G.hm)]
theorem CW.dif{root n few:Nat}{M u v:List Nat}(hu:CW p m t root n few M u)(hv:CW p m t root n few M v):CW p m t root n few M (dif p m t u v):=by
 refine CW.add G (M':=M) hu ⟨by rw[ybv];exact hv.1,λx hx=>?_,λk hk=>?_⟩
 ·obtain⟨i,hi,rfl⟩:=List.mem_map.mp hx;have hi:=List.mem_range.mp hi;exact yeX G (ygt G) (hv.2.1 _ (ze2 G (by lia)))
 ·rw[zcK G (yaw G.hp G.hm _ _) (hv.lt G),hv.2.2 k hk,mul_zero G.hp G.hm]
theorem yha{x y z:Nat}(hx:x<p^m)(hy:y<p^m)(e:add p m x z=add p m y z):x=y:=by
 have:=congrArg (λu=>sub p m u z) e
 try dsimp only at this
 rwa [zbe G.hp G.hm hx,zbe G.hp G.hm hy]at this
theorem zeP{n:Nat}{u v:List Nat}(hu:u.length=n)(hv:v.length=n)(h:∀i,i<n->u.getD i 0=v.getD i 0):u=v :=
 List.ext_getElem (hu.trans hv.symm) λi a b=>by
  have:=h i (by lia)
  rwa [show u.getD i 0=u[i] by simp[List.getD,a],show v.getD i 0=v[i] by simp[List.getD,b]]at this
section
variable {root n few:Nat} {A B:List Nat}
theorem CW.at_lt{u:List Nat}(h:CW p m t root n few A u){i:Nat}(hi:i<n):u.getD i 0<p^m:=h.lt G _ (ze2 G (by rw[h.1];exact hi))
theorem zcy{u v:List Nat}(hu:u.length=n)(hv:v.length=n){i:Nat}(hi:i<n):(dif p m t u v).getD i 0=add p m (u.getD i 0) (mul p m t (sub p m 0 1) (v.getD i 0)):=by
 unfold dif;rw[ycs G hu (by rw[ybv];exact hv) hi,ybL G hv hi]
theorem yhM{u v w:List Nat}(hu:CW p m t root n few A u)(hv:CW p m t root n few A v)(hw:CW p m t root n few A w)(e:dif p m t u w=dif p m t v w):u=v:=by
 refine zeP G hu.1 hv.1 λi hi=>?_
 have h:=congrArg (λl:List Nat=>l.getD i 0) e
 try dsimp only at h
 rw[zcy G hu.1 hw.1 hi,zcy G hv.1 hw.1 hi]at h;exact yha G (hu.at_lt G hi) (hv.at_lt G hi) h
end
theorem zh1{root n few:Nat}{M:List Nat}(W:Whl p m t few root n M)(hl:M.length<=n)(u:List Nat):u∈lwL p m t root n M few (n-M.length)↔CW p m t root n few M u:=zib G W (by lia) u
theorem zhC{root n few:Nat}{M:List Nat}(W:Whl p m t few root n M):(lwL p m t root n M few (n-M.length)).length=(p^few)^(n-M.length):=by rw[ycA,zep G W.fewm W.few1]
end
end My
end
section
namespace My
open PySem L2 Dg
def bn:Nat->Nat->Nat
 |_,0=>1
 |0,_+1=>0
 |n+1,k+1=>bn n k+bn n (k+1)
theorem yaB(n:Nat):bn n 0=1:=by cases n <;> rfl
theorem yaV(n k:Nat):bn (n+1) (k+1)=bn n k+bn n (k+1):=rfl
theorem ybd:∀ {n k:Nat},n<k->bn n k=0
 |0,k+1,_=>rfl
 |n+1,k+1,h=>by rw[yaV,ybd (by omega),ybd (by omega)]
theorem zeg:∀n:Nat,bn n n=1
 |0=>rfl
 |n+1=>by rw[yaV,zeg n,ybd (by omega)]
theorem zdH:∀n k:Nat,(k+1)*bn n (k+1)=(n-k)*bn n k
 |0,k=>by rw[Nat.zero_sub,Nat.zero_mul];rfl
 |n+1,0=>by
  have h:=zdH n 0;rw[yaB]at h;rw[yaV,yaB,yaB];omega
 |n+1,k+1=>by
  rcases Nat.lt_or_ge n k with h|h
  ·rw[ybd (by omega),ybd (by omega),Nat.mul_zero,Nat.mul_zero]
  have h1:=zdH n k;have h2:=zdH n (k+1);rw[yaV n (k+1),yaV n k,Nat.add_sub_add_right,Nat.mul_add,Nat.mul_add,h2,<-h1];rcases Nat.lt_or_ge k n with h3|h3
  ·obtain⟨d,rfl⟩:∃d,n=k+1+d:=⟨n-(k+1),by omega⟩
   rw[show k+1+d-(k+1)=d by omega,show k+1+d-k=d+1 by omega,Nat.add_mul,Nat.add_mul];generalize bn (k+1+d) (k+1)=x
   grind
  ·have:n=k:=by omega
   subst this;rw[ybd (show n<n+1 by omega),Nat.sub_self];omega
theorem yio(n k:Nat):bn n k*(n-k)/(k+1)=bn n (k+1):=by
 rw[Nat.mul_comm,<-zdH];exact Nat.mul_div_cancel_left _ (by omega)
def fc:Nat->Nat
 |0=>1
 |n+1=>(n+1)*fc n
theorem ze6:∀n,0<fc n
 |0=>Nat.one_pos
 |n+1=>Nat.mul_pos (by omega) (ze6 n)
theorem zfa:∀(s x y:Nat),x+y=s->bn s x*(fc x*fc y)=fc s
 |s,0,y,h=>by rw[yaB,<-h,Nat.zero_add];show 1*(1*fc y)=fc y;omega
 |s,x+1,0,h=>by rw[<-h,Nat.add_zero,zeg];show 1*(fc (x+1)*1)=fc (x+1);omega
 |0,x+1,y+1,h=>by omega
 |s+1,x+1,y+1,h=>by
  have h1:=zfa s x (y+1) (by omega);have h2:=zfa s (x+1) y (by omega);rw[yaV];show _=(s+1)*fc s;have e1:fc (x+1)=(x+1)*fc x:=rfl;have e2:fc (y+1)=(y+1)*fc y:=rfl;rw[e2]at h1;rw[e1]at h2;rw[e1,e2,show s+1=(x+1)+(y+1) by omega,Nat.add_mul _ _ (fc s)]
  conv=>rhs;rw[<-h1]
  have h3:bn s x*(fc x*((y+1)*fc y))=bn s (x+1)*((x+1)*fc x*fc y):=by rw[h1,h2]
  generalize bn s x=b1 at *;generalize bn s (x+1)=b2 at *;generalize fc x=f1 at *;generalize fc y=f2 at *;rw[Nat.add_mul];have e5:b1*((x+1)*f1*((y+1)*f2))=(x+1)*(b1*(f1*((y+1)*f2))):=by grind
  have e6:b2*((x+1)*f1*((y+1)*f2))=(y+1)*(b2*((x+1)*f1*f2)):=by grind
  rw[e5,e6,h3]
theorem yhB(a w j:Nat):bn (a+w+j) w*bn (a+j) j=bn (a+w+j) j*bn (a+w) w:=by
 have h1:=zfa (a+w+j) w (a+j) (by omega);have h2:=zfa (a+j) j a (by omega);have h3:=zfa (a+w+j) j (a+w) (by omega);have h4:=zfa (a+w) w a (by omega);refine Nat.eq_of_mul_eq_mul_right (Nat.mul_pos (ze6 w) (Nat.mul_pos (ze6 j) (ze6 a))) ?_;have e1:bn (a+w+j) w*bn (a+j) j*(fc w*(fc j*fc a))=bn (a+w+j) w*(fc w*(bn (a+j) j*(fc j*fc a))):=by grind
 have e2:bn (a+w+j) j*bn (a+w) w*(fc w*(fc j*fc a))=bn (a+w+j) j*(fc j*(bn (a+w) w*(fc w*fc a))):=by grind
 rw[e1,e2,h2,h4,h1,h3]
def sN:Nat->(Nat->Int)->Int
 |0,_=>0
 |n+1,f=>sN n f+f n
theorem zaR{f g:Nat->Int}:∀n,(∀i,i<n->f i=g i)->sN n f=sN n g
 |0,_=>rfl
 |n+1,h=>by show sN n f+f n=sN n g+g n;rw[zaR n λi hi=>h i (by omega),h n (by omega)]
theorem yaN(n:Nat)(f:Nat->Int):sN (n+1) f=sN n f+f n:=rfl
theorem zed(f g:Nat->Int):∀n,sN n (λi=>f i+g i)=sN n f+sN n g
 |0=>rfl
 |n+1=>by rw[yaN,yaN,yaN,zed f g n];omega
theorem yfK(c:Int)(f:Nat->Int):∀n,sN n (λi=>c*f i)=c*sN n f
 |0=>by show(0:Int)=c*0;rw[Int.mul_zero]
 |n+1=>by show sN n _+_=c*(sN n f+f n);rw[yfK c f n,Int.mul_add]
theorem zbL(f:Nat->Int):∀n,sN (n+1) f=f 0+sN n λi=>f (i+1)
 |0=>by show(0:Int)+f 0=f 0+0;omega
 |n+1=>by
  show sN (n+1) f+f (n+1)=f 0+(sN n (λi=>f (i+1))+f (n+1));rw[zbL f n];omega
def dF(f:Nat->Int):Nat->Int:=λk=>f (k+1)-f k
def dP(f:Nat->Int):Nat->Nat->Int
 |0=>f
 |w+1=>dP (dF f) w
theorem zf5:∀(N:Nat) (f:Nat->Int),f N=sN (N+1) λw=>(bn N w:Int)*dP f w 0
 |0,f=>by show f 0=0+(1:Int)*f 0;omega
 |N+1,f=>by
  have h:f (N+1)=f N+dF f N:=by show f (N+1)=f N+(f (N+1)-f N);omega
  rw[h,zf5 N f,zf5 N (dF f),zbL _ (N+1),zbL _ N];have e:(sN (N+1) λi=>((bn (N+1) (i+1):Nat):Int)*dP f (i+1) 0)=(sN (N+1) λw=>(bn N w:Int)*dP (dF f) w 0)+sN (N+1) λi=>((bn N (i+1):Nat):Int)*dP f (i+1) 0:=by
   rw[<-zed];refine zaR _ λi _=>?_
   rw[yaV,Int.natCast_add,Int.add_mul];rfl
  rw[e];have e2:(sN (N+1) λi=>((bn N (i+1):Nat):Int)*dP f (i+1) 0)=sN N λi=>((bn N (i+1):Nat):Int)*dP f (i+1) 0:=by
   rw[yaN];rw[ybd (show N<N+1 by omega)];show _+(0:Int)*_=_;rw[Int.zero_mul,Int.add_zero]
  rw[e2,yaB,yaB,zbL _ N];omega
def sg:Nat->Int
 |0=>1
 |n+1=>-sg n
theorem dP_k:∀(w:Nat) (f:Nat->Int) (k:Nat),dP (dF f) w k=dP f w (k+1)-dP f w k
 |0,f,k=>rfl
 |w+1,f,k=>dP_k w (dF f) k
theorem zeW:∀(w:Nat) (f:Nat->Int) (k:Nat),dP f w k=sN (w+1) λi=>sg i*(bn w i:Int)*f (k+(w-i))
 |0,f,k=>by show f k=0+(1:Int)*1*f (k+0);rw[Nat.add_zero];omega
 |w+1,f,k=>by
  show dP (dF f) w k=_;rw[dP_k,zeW w f (k+1),zeW w f k,zbL _ (w+1)];have e:(sN (w+1) λi=>sg (i+1)*((bn (w+1) (i+1):Nat):Int)*f (k+(w+1-(i+1))))=(sN (w+1) λi=>(-1)*(sg i*((bn w i:Nat):Int)*f (k+(w-i))))+sN (w+1) λi=>sg (i+1)*((bn w (i+1):Nat):Int)*f (k+(w-i)):=by
   rw[<-zed];refine zaR _ λi _=>?_
   rw[yaV,Int.natCast_add,Nat.add_sub_add_right,Int.mul_add,Int.add_mul,show sg (i+1) = -sg i from rfl]
   grind
  rw[e,yfK,zbL (λi=>sg i*(bn w i:Int)*f (k+1+(w-i))) w];have e2:(sN (w+1) λi=>sg (i+1)*((bn w (i+1):Nat):Int)*f (k+(w-i)))=sN w λi=>sg (i+1)*((bn w (i+1):Nat):Int)*f (k+1+(w-(i+1))):=by
   rw[yaN];rw[ybd (show w<w+1 by omega),show((0:Nat):Int)=0 from rfl,Int.mul_zero,Int.zero_mul,Int.add_zero];exact zaR _ λi hi=>by rw[show k+(w-i)=k+1+(w-(i+1)) by omega]
  rw[e2,yaB,yaB,show k+1+(w-0)=k+(w+1-0) by omega];omega
theorem ygG(w:Nat):(sN (w+2) λi=>sg i*(bn (w+1) i:Int))=0:=by
 have h:=zeW (w+1) (λ_=>1) 0;have z:∀(w k:Nat),dP (λ_=>0) w k=0:=by
  intro w
  induction w with
  |zero=>intro k;rfl
  |succ w ih=>intro k;show dP (dF λ_=>0) w k=0;rw[show(dF λ_=>(0:Int))=λ_=>0 from funext λk=>by show(0:Int)-0=0;omega];exact ih k
 have e:dP (λ_=>(1:Int)) (w+1) 0=0:=by
  show dP (dF λ_=>1) w 0=0;rw[show(dF λ_=>(1:Int))=λ_=>0 from funext λk=>by show(1:Int)-1=0;omega];exact z w 0
 rw[e]at h;rw[h];exact zaR _ λi _=>by rw[Int.mul_one]
def wc(q many w:Nat):Int:=sN (w-many) λi=>sg i*(bn w i:Int)*((q:Int)^(w-many-i)-1)
theorem ziQ(q many w:Nat)(h:0<w):wc q many w=dP (λk=>(q:Int)^(k-many)) w 0:=by
 obtain⟨v,rfl⟩:∃v,w=v+1:=⟨w-1,by omega⟩
 rw[zeW];have e:(sN (v+1+1) λi=>sg i*(bn (v+1) i:Int)*(q:Int)^(0+(v+1-i)-many))=(sN (v+1+1) λi=>sg i*(bn (v+1) i:Int)*((q:Int)^(v+1-i-many)-1))+sN (v+2) λi=>sg i*(bn (v+1) i:Int):=by
  rw[<-zed];exact zaR _ λi _=>by rw[Nat.zero_add];grind
 rw[e,ygG,Int.add_zero];have tail:∀d,(sN (v+1-many+d) λi=>sg i*(bn (v+1) i:Int)*((q:Int)^(v+1-i-many)-1))=sN (v+1-many) λi=>sg i*(bn (v+1) i:Int)*((q:Int)^(v+1-i-many)-1):=by
  intro d
  induction d with
  |zero=>rfl
  |succ d ih=>
   rw[<-Nat.add_assoc,yaN,ih,show v+1-(v+1-many+d)-many=0 by omega];show _+_*((1:Int)-1)=_;rw[show(1:Int)-1=0 by omega,Int.mul_zero,Int.add_zero]
 have hd:v+1+1=v+1-many+(v+2-(v+1-many)):=by omega
 rw[hd,tail];unfold wc;exact zaR _ λi _=>by rw[show v+1-many-i=v+1-i-many by omega]
def cwt(q n many:Nat):Nat->Int
 |0=>1
 |w+1=>(bn n (w+1):Int)*wc q many (w+1)
theorem ziz(q n many w:Nat):cwt q n many w=(bn n w:Int)*dP (λk=>(q:Int)^(k-many)) w 0:=by
 cases w with
 |zero=>
  rw[yaB];show(1:Int)=1*(q:Int)^(0-many);rw[Nat.zero_sub,Int.pow_zero];rfl
 |succ w=>
  show(bn n (w+1):Int)*wc q many (w+1)=_;rw[ziQ q many (w+1) (by omega)]
theorem yf9(q n many j:Nat)(hj:j<=n):(sN (n-j+1) λw=>(bn (n-w) j:Int)*cwt q n many w)=(bn n j:Int)*(q:Int)^(n-many-j):=by
 have e:(sN (n-j+1) λw=>(bn (n-w) j:Int)*cwt q n many w)=sN (n-j+1) λw=>(bn n j:Int)*((bn (n-j) w:Int)*dP (λk=>(q:Int)^(k-many)) w 0):=by
  refine zaR _ λw hw=>?_
  obtain⟨a,rfl⟩:∃a,n=a+w+j:=⟨n-w-j,by omega⟩
  have h:=yhB a w j;rw[ziz,show a+w+j-w=a+j by omega,show a+w+j-j=a+w by omega,<-Int.mul_assoc,<-Int.mul_assoc,<-Int.natCast_mul,<-Int.natCast_mul,Nat.mul_comm,h]
 rw[e,yfK,<-zf5 (n-j) λk=>(q:Int)^(k-many)];rw[show n-j-many=n-many-j by omega]
theorem zgp{n:Nat}{A B:Nat->Int}(h:∀j,j<=n->(sN (n-j+1) λw=>(bn (n-w) j:Int)*A w)=sN (n-j+1) λw=>(bn (n-w) j:Int)*B w):∀w,w<=n->A w=B w:=by
 intro w
 induction w using Nat.strongRecOn with
 |_ w ih=>
  intro hw;have h1:=h (n-w) (by omega);rw[show n-(n-w)+1=w+1 by omega,yaN,yaN,zeg,show((1:Nat):Int)=1 from rfl,Int.one_mul,Int.one_mul]at h1;have h2:(sN w λv=>(bn (n-v) (n-w):Int)*A v)=sN w λv=>(bn (n-v) (n-w):Int)*B v:=zaR _ λv hv=>by rw[ih v hv (by omega)]
  omega
noncomputable def ybV:Nat->Nat->List (List Bool)
 |0,0=>[[]]
 |0,_+1=>[]
 |n+1,0=>(ybV n 0).map (false::·)
 |n+1,j+1=>(ybV n j).map (true::·)++(ybV n (j+1)).map (false::·)
theorem yb6:∀n j,(ybV n j).length=bn n j
 |0,0=>rfl
 |0,_+1=>rfl
 |n+1,0=>by show(List.map _ _).length=_;rw[List.length_map,yb6 n 0,yaB,yaB]
 |n+1,j+1=>by show(_++_:List (List Bool)).length=_;rw[List.length_append,List.length_map,List.length_map,yb6 n j,yb6 n (j+1),yaV]
theorem zcb:∀ {n j:Nat} {z:List Bool},z∈ybV n j->z.length=n/\z.count true=j
 |0,0,z,h=>by rw[List.mem_singleton.mp h];exact⟨rfl,rfl⟩
 |0,_+1,z,h=>nomatch h
 |n+1,0,z,h=>by
  obtain⟨y,hy,rfl⟩:=List.mem_map.mp h;have:=zcb hy;exact⟨by rw[List.length_cons,this.1],by rw[List.count_cons_of_ne (by decide)];exact this.2⟩
 |n+1,j+1,z,h=>by
  rcases List.mem_append.mp h with h|h
  ·obtain⟨y,hy,rfl⟩:=List.mem_map.mp h;have:=zcb hy;exact⟨by rw[List.length_cons,this.1],by rw[List.count_cons_self,this.2]⟩
  ·obtain⟨y,hy,rfl⟩:=List.mem_map.mp h;have:=zcb hy;exact⟨by rw[List.length_cons,this.1],by rw[List.count_cons_of_ne (by decide)];exact this.2⟩
def van:List Bool->List Nat->Bool
 |true::z,x::u=>decide (x=0)&&van z u
 |false::z,_::u=>van z u
 |_,_=>true
theorem yb7:∀(u:List Nat) (j:Nat),((ybV u.length j).filter λz=>van z u).length=bn (u.count 0) j
 | [],0=>rfl
 | [],_+1=>rfl
 |x::u,0=>by
  show((List.map _ _).filter _).length=_;rw[List.filter_map,List.length_map,yaB];have:=yb7 u 0;rw[yaB]at this;exact this
 |x::u,j+1=>by
  show((_++_:List (List Bool)).filter _).length=_;rw[List.filter_append,List.length_append,List.filter_map,List.filter_map,List.length_map,List.length_map];have h2:((ybV u.length (j+1)).filter ((λz=>van z (x::u)) ∘ (false::·))).length=bn (u.count 0) (j+1):=yb7 u (j+1);rw[h2];by_cases c:x=0
  ·subst c;have h1:((ybV u.length j).filter ((λz=>van z (0::u)) ∘ (true::·))).length=bn (u.count 0) j:=by
    rw[<-yb7 u j];refine congrArg List.length (List.filter_congr λz _=>?_);show(decide (0=0)&&van z u)=van z u;rw[decide_eq_true rfl,Bool.true_and]
   rw[h1,List.count_cons_self,yaV]
  ·have h1:(ybV u.length j).filter ((λz=>van z (x::u)) ∘ (true::·))=[]:=by
    refine List.filter_eq_nil_iff.mpr λz _=>?_
    show ¬ (decide (x=0)&&van z u)=true;rw[decide_eq_false c,Bool.false_and];exact Bool.false_ne_true
   rw[h1,List.count_cons_of_ne c,List.length_nil,Nat.zero_add]
theorem ziv{α β:Type}(P:α->β->Bool)(l:List α)(k:List β):(l.map λa=>(k.filter λb=>P a b).length).sum=(k.map λb=>(l.filter λa=>P a b).length).sum:=by
 induction l with
 |nil=>
  rw[List.map_nil,List.sum_nil];have:(k.map λb=>(List.filter (λa=>P a b) []).length)=k.map λ_=>0:=rfl
  rw[this,List.map_const',List.sum_replicate_nat,Nat.mul_zero]
 |cons a l ih=>
  rw[List.map_cons,List.sum_cons,ih];clear ih
  induction k with
  |nil=>rfl
  |cons b k ih=>
   rw[List.map_cons,List.sum_cons,List.map_cons,List.sum_cons,List.filter_cons,List.filter_cons];cases c:P a b
   ·rw[if_neg (by decide),if_neg (by decide)];omega
   ·rw[if_pos rfl,if_pos rfl,List.length_cons,List.length_cons];omega
theorem zg2(F:Nat->Int)(c:Nat):∀n,(sN n λw=>(if c=w then 1 else 0)*F w)=if c<n then F c else 0
 |0=>by rw[if_neg (by omega)];rfl
 |n+1=>by
  rw[yaN,zg2 F c n];by_cases h:c=n
  ·subst h;rw[if_neg (Nat.lt_irrefl _),if_pos rfl,if_pos (by omega),Int.one_mul,Int.zero_add]
  ·rw[if_neg h,Int.zero_mul,Int.add_zero];by_cases h2:c<n
   ·rw[if_pos h2,if_pos (by omega)]
   ·rw[if_neg h2,if_neg (by omega)]
theorem zeO{α:Type}(g:α->Nat)(f:Nat->Nat)(n:Nat):∀l:List α,(∀a∈l,g a<=n)->(((l.map λa=>f (g a)).sum:Nat):Int)=sN (n+1) λw=>(f w:Int)*((l.filter λa=>decide (g a=w)).length:Int)
 | [],_=>by
  rw[List.map_nil,List.sum_nil];have:∀m,(sN m λw=>(f w:Int)*((([]:List α).filter λa=>decide (g a=w)).length:Int))=0:=λm=>by
   induction m with
   |zero=>rfl
   |succ m ih=>rw[yaN,ih];show(0:Int)+_*0=0;rw[Int.mul_zero];rfl
  rw[this];rfl
 |a::l,h=>by
  rw[List.map_cons,List.sum_cons,Int.natCast_add,zeO g f n l λb hb=>h b (List.mem_cons_of_mem _ hb)];have e:(sN (n+1) λw=>(f w:Int)*(((a::l).filter λa=>decide (g a=w)).length:Int))=(sN (n+1) λw=>(if g a=w then 1 else 0)*(f w:Int))+sN (n+1) λw=>(f w:Int)*((l.filter λa=>decide (g a=w)).length:Int):=by
   rw[<-zed];refine zaR _ λw _=>?_
   rw[List.filter_cons];by_cases c:g a=w
   ·rw[if_pos (decide_eq_true c),if_pos c,List.length_cons,Int.natCast_add,Int.mul_add];grind
   ·rw[if_neg (by rw[decide_eq_false c];exact Bool.false_ne_true),if_neg c,Int.zero_mul,Int.zero_add]
  rw[e,zg2 (λw=>(f w:Int)) (g a) (n+1),if_pos (Nat.lt_succ_of_le (h a List.mem_cons_self))]
def wg(u:List Nat):Nat:=u.length-u.count 0
theorem ziw{Q n r:Nat}{Ws:List (List Nat)}(hl:∀u∈Ws,u.length=n)(h:∀j,j<=n->∀z∈ybV n j,(Ws.filter λu=>van z u).length=Q^(n-r-j)):∀w,w<=n->((Ws.filter λu=>decide (wg u=w)).length:Int)=cwt Q n r w:=by
 refine zgp λj hj=>?_
 rw[yf9 Q n r j hj];have h1:=ziv (λu z=>van z u) Ws (ybV n j);have h2:(Ws.map λu=>((ybV n j).filter λz=>van z u).length)=Ws.map λu=>bn (n-wg u) j:=List.map_congr_left λu hu=>by
  have e:=yb7 u j;rw[hl u hu]at e;have:=List.count_le_length (a:=0) (l:=u);rw[hl u hu]at this;unfold wg;rw[e,hl u hu,show n-(n-u.count 0)=u.count 0 by omega]
 have h3:((ybV n j).map λz=>(Ws.filter λu=>van z u).length)=(ybV n j).map λ_=>Q^(n-r-j):=List.map_congr_left λz hz=>h j hj z hz
 rw[h2,h3,List.map_const',List.sum_replicate_nat,yb6]at h1;have h4:=zeO wg (λw=>bn (n-w) j) n Ws λu hu=>by unfold wg;rw[hl u hu];omega
 rw[h1,Int.natCast_mul]at h4;have tail:∀d,(sN (n-j+1+d) λw=>(bn (n-w) j:Int)*((Ws.filter λu=>decide (wg u=w)).length:Int))=sN (n-j+1) λw=>(bn (n-w) j:Int)*((Ws.filter λu=>decide (wg u=w)).length:Int):=by
  intro d
  induction d with
  |zero=>rfl
  |succ d ih=>
   rw[<-Nat.add_assoc,yaN,ih];by_cases c:j=0
   ·subst c;rw[show(Ws.filter λu=>decide (wg u=n-0+1+d))=[] from List.filter_eq_nil_iff.mpr λu hu=>by
     have:wg u<=n:=by unfold wg;rw[hl u hu];omega
     rw[decide_eq_false (by omega)];exact Bool.false_ne_true]
    show _+_*(0:Int)=_;rw[Int.mul_zero,Int.add_zero]
   ·rw[ybd (show n-(n-j+1+d)<j by omega)];show _+(0:Int)*_=_;rw[Int.zero_mul,Int.add_zero]
 rw[<-tail j,show n-j+1+j=n+1 by omega,<-h4,Int.natCast_pow]
end My
end
section
namespace My
open PySem L2 Dg
theorem zcS:∀u:List Nat,((List.range u.length).filter λi=>decide (u.getD i 0≠0)).length=wg u
 | []=>rfl
 |x::u=>by
  have ih:=zcS u;have hc:=List.count_le_length (a:=0) (l:=u);rw[List.length_cons,List.range_succ_eq_map,List.filter_cons,List.filter_map];have e:((List.range u.length).filter ((λi=>decide ((x::u).getD i 0≠0)) ∘ Nat.succ)).length=wg u:=ih;unfold wg at *;by_cases c:x=0
  ·subst c;rw[if_neg (by simp),List.length_map,e,List.length_cons,List.count_cons_self];lia
  ·rw[if_pos (by simpa using c),List.length_cons,List.length_map,e,List.length_cons,List.count_cons_of_ne c];lia
section
variable {p m t:Nat} (G:Good p m t)
include G
theorem ygs{f:Nat->Nat}(hf:∀i,f i<p^m){a n:Nat}(h:a<n)(h0:∀i,i<n->i≠a->f i=0):sumF p m n f=f a:=by
 have e:sumF p m n f=sumF p m n λi=>if i=a then f a else 0:=yaj G.hp G.hm n λi hi=>by
  by_cases c:i=a
  ·rw[if_pos c,c]
  ·rw[if_neg c];exact h0 i hi c
 rw[e,ygb G.hp G.hm (λi=>if i=a then f a else 0) (a:=a) (by rw[if_pos rfl];exact hf a) (λi hi=>if_neg hi) n h,if_pos rfl]
theorem ygv{root n b s r:Nat}{u:List Nat}(r0:0<root)(hr:root<p^m)(o:Ord p m t (pw p m t root s) n)(hl:u.length=n)(hu:∀x∈u,x<p^m)(hz:∀k,k<r->val p m t (pw p m t root (b+k*s)) u=0)(hw:wg u<=r):∀i,i<n->u.getD i 0=0:=by
 have hp:=G.hp;have hm:=G.hm;intro i0 hi0;refine Classical.byContradiction λhne=>?_
 have hT:((List.range n).filter λi=>decide (u.getD i 0≠0)).length=wg u:=by
  rw[<-hl];exact zcS u
 obtain⟨ms,hms,hmem⟩:∃ms:List Nat,ms.length+1=wg u/\∀x,x∈ms↔x<n/\x≠i0/\u.getD x 0≠0:=by
  refine⟨((List.range n).filter λi=>decide (u.getD i 0≠0)).erase i0,?_,λx=>?_⟩
  ·have hm0:i0∈(List.range n).filter λi=>decide (u.getD i 0≠0):=List.mem_filter.mpr ⟨List.mem_range.mpr hi0,decide_eq_true hne⟩
   rw[List.length_erase_of_mem hm0,hT];have:=List.length_pos_of_mem hm0;rw[hT]at this;lia
  ·rw[(List.Nodup.mem_erase_iff (List.Pairwise.filter _ List.nodup_range)),List.mem_filter,List.mem_range,decide_eq_true_eq];exact⟨λh=>⟨h.2.1,h.1,h.2.2⟩,λh=>⟨h.2.1,h.1,h.2.2⟩⟩
 have hβ:=yaw (t:=t) hp hm root s;have β0:=G.pw_pos r0 hr s;have hL:=ybs (root:=pw p m t root s) G ms;have hLl:=zaN (p:=p) (m:=m) (t:=t) (root:=pw p m t root s) (marks:=ms);generalize hLe:mkL p m t (pw p m t root s) ms=L at hL hLl;have hS:(sumF p m L.length λk=>mul p m t (L.getD k 0) (val p m t (pw p m t root (b+k*s)) u))=0:=by
  have:=yaj hp hm (f:=λk=>mul p m t (L.getD k 0) (val p m t (pw p m t root (b+k*s)) u)) (g:=λ_=>0) L.length λk hk=>by rw[hz k (by lia),mul_zero hp hm]
  rw[this];exact yeQ hp hm _
 have e1:(sumF p m L.length λk=>mul p m t (L.getD k 0) (val p m t (pw p m t root (b+k*s)) u))=sumF p m n λi=>mul p m t (mul p m t (u.getD i 0) (pw p m t root (b*i))) (val p m t (pw p m t (pw p m t root s) i) L):=by
  have a1:(sumF p m L.length λk=>mul p m t (L.getD k 0) (val p m t (pw p m t root (b+k*s)) u))=sumF p m L.length λk=>sumF p m n λi=>mul p m t (L.getD k 0) (mul p m t (u.getD i 0) (pw p m t (pw p m t root (b+k*s)) i)):=yaj hp hm _ λk _=>by
   rw[yaO hp hm (yaw hp hm _ _) u hu,hl,mul_comm hp hm,<-zbv hp hm];exact yaj hp hm _ λi _=>mul_comm hp hm _ _
  have a2:(sumF p m n λi=>mul p m t (mul p m t (u.getD i 0) (pw p m t root (b*i))) (val p m t (pw p m t (pw p m t root s) i) L))=sumF p m n λi=>sumF p m L.length λk=>mul p m t (L.getD k 0) (mul p m t (u.getD i 0) (pw p m t (pw p m t root (b+k*s)) i)):=yaj hp hm _ λi _=>by
   rw[yaO hp hm (yaw hp hm _ _) L hL,mul_comm hp hm,<-zbv hp hm];refine yaj hp hm _ λk _=>?_
   have e:pw p m t (pw p m t root (b+k*s)) i=mul p m t (pw p m t root (b*i)) (pw p m t (pw p m t (pw p m t root s) i) k):=by
    rw[<-yaF hp hm,<-yaF hp hm,<-yaF hp hm,<-ya1 hp hm,Nat.add_mul,show s*(i*k)=k*s*i by grind]
   rw[e,mul_assoc hp hm,mul_comm hp hm (pw p m t (pw p m t (pw p m t root s) i) k),<-mul_assoc hp hm (u.getD i 0),mul_comm hp hm (mul p m t (u.getD i 0) _)]
  rw[a1,a2,zgM hp hm]
 have e2:(sumF p m n λi=>mul p m t (mul p m t (u.getD i 0) (pw p m t root (b*i))) (val p m t (pw p m t (pw p m t root s) i) L))=mul p m t (mul p m t (u.getD i0 0) (pw p m t root (b*i0))) (val p m t (pw p m t (pw p m t root s) i0) L):=by
  refine ygs G (λi=>yap hp hm _ _) hi0 λi hi hn=>?_
  by_cases c:u.getD i 0=0
  ·rw[c,zero_mul hp hm,zero_mul hp hm]
  ·rw[<-hLe,yb9 G ((hmem i).mpr ⟨hi,hn,c⟩),mul_zero hp hm]
 have nz:0<val p m t (pw p m t (pw p m t root s) i0) L:=by
  rw[<-hLe];exact yie G β0 hβ o (λx hx=>((hmem x).mp hx).1) hi0 λh=>((hmem i0).mp h).2.1 rfl
 have:=G.noz (G.noz (Nat.pos_of_ne_zero hne) (zaG hu (by lia)) (G.pw_pos r0 hr (b*i0)) (yaw hp hm _ _)) (yap hp hm _ _) nz (ybx hp hm _ _);rw[<-e2,<-e1,hS]at this;exact Nat.lt_irrefl _ this
end
end My
end
section
namespace My
open PySem L2 Dg
theorem zdQ{α:Type}[DecidableEq α]:∀ {s l:List α},s.Nodup->(∀x∈s,x∈l)->s.length<=l.length
 | [],_,_,_=>Nat.zero_le _
 |x::s,l,hd,h=>by
  have hd':=List.nodup_cons.mp hd;have hx:=h x List.mem_cons_self;have:=zdQ hd'.2 (l:=l.erase x) λy hy=>(List.mem_erase_of_ne (by rintro rfl;exact hd'.1 hy)).mpr (h y (List.mem_cons_of_mem _ hy))
  rw[List.length_erase_of_mem hx]at this;have:=List.length_pos_of_mem hx;rw[List.length_cons];lia
theorem zfB{α β:Type}[DecidableEq β]{P:List α}{T:List β}{f:α->β}(hn:P.Nodup)(h:∀x∈P,f x∈T)(hi:∀x∈P,∀y∈P,f x=f y->x=y):P.length<=T.length:=by
 rw[<-List.length_map (f:=f)];refine zdQ (List.pairwise_map.mpr (List.Pairwise.imp_of_mem (λ{a b} ha hb hab e=>hab (hi a ha b hb e)) hn)) λy hy=>?_
 obtain⟨x,hx,rfl⟩:=List.mem_map.mp hy;exact h x hx
def plc(b:Bool)(z:List Bool):List Nat:=(List.range z.length).filter λi=>z.getD i (!b)==b
theorem ybc{b:Bool}{z:List Bool}{i:Nat}:i∈plc b z↔i<z.length/\z.getD i (!b)=b:=by
 unfold plc;rw[List.mem_filter,List.mem_range,beq_iff_eq]
theorem yem:∀(b:Bool) (z:List Bool),(plc b z).length=z.count b
 |_,[]=>rfl
 |b,x::z=>by
  have ih:=yem b z;unfold plc at *;rw[List.length_cons,List.range_succ_eq_map,List.filter_cons,List.filter_map];have e:((List.range z.length).filter ((λi=>(x::z).getD i (!b)==b) ∘ Nat.succ)).length=z.count b:=ih;by_cases c:x=b
  ·subst c;rw[if_pos (by simp),List.length_cons,List.length_map,e,List.count_cons_self]
  ·rw[if_neg (by simpa using c),List.length_map,e,List.count_cons_of_ne c]
theorem zfO:∀ {z:List Bool} {u:List Nat},z.length=u.length->(van z u=true↔∀i∈plc true z,u.getD i 0=0)
 | [],[],_=>⟨λ_ i hi=>absurd (ybc.mp hi).1 (Nat.not_lt_zero _),λ_=>rfl⟩
 | [],_::_,h=>nomatch h
 |_::_,[],h=>nomatch h
 |b::z,x::u,h=>by
  have ih:=zfO (z:=z) (u:=u) (by simpa using h);have hs:(∀i∈plc true (b::z),(x::u).getD i 0=0)↔(b=true->x=0)/\∀i∈plc true z,u.getD i 0=0:=by
   constructor
   ·intro h1;refine⟨λhb=>h1 0 (ybc.mpr ⟨by simp,by simpa using hb⟩),λi hi=>?_⟩;have:=ybc.mp hi;exact h1 (i+1) (ybc.mpr ⟨by simpa using this.1,by simpa using this.2⟩)
   ·rintro⟨h1,h2⟩ i hi;have:=ybc.mp hi;cases i with
    |zero=>exact h1 (by simpa using this.2)
    |succ i=>exact h2 i (ybc.mpr ⟨by simpa using this.1,by simpa using this.2⟩)
  rw[hs,<-ih];cases b with
  |true=>show(decide (x=0)&&van z u)=true↔_;rw[Bool.and_eq_true,decide_eq_true_eq];exact⟨λh=>⟨λ_=>h.1,h.2⟩,λh=>⟨h.1 rfl,h.2⟩⟩
  |false=>exact⟨λh=>⟨λh=>(by cases h),h⟩,λh=>h.2⟩
end My
end
section
namespace My
open PySem L2 Dg
section
variable {p m t:Nat} (G:Good p m t)
include G
def runM(b s r:Nat):List Nat:=(List.range r).map λk=>b+k*s
variable {root n b s r:Nat}
theorem yiO(r0:0<root)(hr:root<p^m)(o:Ord p m t (pw p m t root s) n){u v:List Nat}(hu:CW p m t root n m (runM b s r) u)(hv:CW p m t root n m (runM b s r) v){X:List Nat}(nX:X.Nodup)(lX:∀i∈X,i<n)(hX:n<=X.length+r)(h:∀i∈X,u.getD i 0=v.getD i 0):u=v:=by
 have hp:=G.hp;have hm:=G.hm;have hd:=CW.dif G hu hv;have hz:∀i,i<n->u.getD i 0=v.getD i 0->(dif p m t u v).getD i 0=0:=λi hi e=>by
  rw[zcy G hu.1 hv.1 hi,e];exact zdE G (hv.at_lt G hi)
 have hw:wg (dif p m t u v)<=r:=by
  rw[<-zcS,hd.1];have:=zdQ (s:=((List.range n).filter λi=>decide ((dif p m t u v).getD i 0≠0))++X) (l:=List.range n) (List.nodup_append.mpr ⟨List.Pairwise.filter _ List.nodup_range,nX,λx hx y hy e=>by
   subst e;exact of_decide_eq_true (List.mem_filter.mp hx).2 (hz x (lX x hy) (h x hy))⟩) λx hx=>by
   rcases List.mem_append.mp hx with hx|hx
   ·exact(List.mem_filter.mp hx).1
   ·exact List.mem_range.mpr (lX x hx)
  rw[List.length_append,List.length_range]at this
  lia
 have h0:=ygv G (b:=b) (r:=r) r0 hr o hd.1 (hd.lt G) (λk hk=>hd.2.2 _ (List.mem_map.mpr ⟨k,List.mem_range.mpr hk,rfl⟩)) hw;refine zeP G hu.1 hv.1 λi hi=>?_
 have e:=h0 i hi;rw[zcy G hu.1 hv.1 hi]at e;exact yha G (z:=mul p m t (sub p m 0 1) (v.getD i 0)) (hu.at_lt G hi) (hv.at_lt G hi) (by rw[e,zdE G (hv.at_lt G hi)])
theorem yhE(r0:0<root)(hr:root<p^m)(o:Ord p m t (pw p m t root s) n)(hrn:r<=n){Ws:List (List Nat)}(nd:Ws.Nodup)(hW:∀u,u∈Ws↔CW p m t root n m (runM b s r) u)(sz:Ws.length=(p^m)^(n-r)):∀j,j<=n->∀z∈ybV n j,(Ws.filter λu=>van z u).length=(p^m)^(n-r-j):=by
 intro j hj z hz;have hp:=G.hp;have hm:=G.hm;have hQ0:0<p^m:=Nat.pow_pos (by lia);obtain⟨lz,cz⟩:=zcb hz;have lt:=yem true z;rw[cz]at lt;have lf:(plc false z).length=n-j:=by
  rw[yem];have:z.count true+z.count false=z.length:=by
   clear hz cz lz lt hW sz nd
   induction z with
   |nil=>rfl
   |cons x z ih=>cases x <;> simp[List.count_cons] <;> lia
  lia
 have ndp:∀b',(plc b' z).Nodup:=λb'=>List.Pairwise.filter _ List.nodup_range
 have ltp:∀b',∀i∈plc b' z,i<n:=λb' i hi=>by have:=(ybc.mp hi).1;lia
 have hall:∀ {u:List Nat} (X:List Nat),CW p m t root n m (runM b s r) u->(∀i∈X,i<n)->(X.map λi=>u.getD i 0)∈allK (List.range (p^m)) X.length:=λ{u} X hu hX=>yb5 _ (List.length_map _) λx hx=>by
  obtain⟨i,hi,rfl⟩:=List.mem_map.mp hx;exact List.mem_range.mpr (hu.at_lt G (hX i hi))
 have hvan:∀ {u:List Nat},u.length=n->(van z u=true↔∀i∈plc true z,u.getD i 0=0):=λ{u} hu=>zfO (by lia)
 have mapeq:∀ {X:List Nat} {u v:List Nat},(X.map λi=>u.getD i 0)=(X.map λi=>v.getD i 0)->∀i∈X,u.getD i 0=v.getD i 0:=λ{X u v} e i hi=>List.map_inj_left.mp e i hi
 refine Nat.le_antisymm ?_ ?_
 ·have h1:=zfB (P:=Ws.filter λu=>van z u) (T:=allK (List.range (p^m)) ((plc false z).drop r).length) (f:=λu=>((plc false z).drop r).map λi=>u.getD i 0) (List.Pairwise.filter _ nd) (λu hu=>hall _ ((hW u).mp (List.mem_filter.mp hu).1) λi hi=>ltp false i (List.mem_of_mem_drop hi)) λu hu v hv e=>by
   have hu':=(hW u).mp (List.mem_filter.mp hu).1;have hv':=(hW v).mp (List.mem_filter.mp hv).1;have zu:=(hvan hu'.1).mp (List.mem_filter.mp hu).2;have zv:=(hvan hv'.1).mp (List.mem_filter.mp hv).2;refine yiO G r0 hr o hu' hv' (X:=plc true z++(plc false z).drop r) (List.nodup_append.mpr ⟨ndp true,(ndp false).sublist (List.drop_sublist _ _),λx hx y hy e=>?_⟩) (λi hi=>?_) ?_ λi hi=>?_
   ·subst e;have h1:=(ybc.mp hx).2;have h2:=(ybc.mp (List.mem_of_mem_drop hy)).2;have h3:=(ybc.mp hx).1;simp[List.getD,h3]at h1 h2;rw[h1]at h2;cases h2
   ·rcases List.mem_append.mp hi with h|h
    ·exact ltp true i h
    ·exact ltp false i (List.mem_of_mem_drop h)
   ·rw[List.length_append,lt,List.length_drop,lf];lia
   ·rcases List.mem_append.mp hi with h|h
    ·rw[zu i h,zv i h]
    ·exact mapeq e i h
  rw[zb7,List.length_range,List.length_drop,lf,show n-j-r=n-r-j by lia]at h1;exact h1
 ·have into:∀u v,u∈Ws->v∈Ws->(∀i∈plc true z,u.getD i 0=v.getD i 0)->dif p m t u v∈Ws.filter λu=>van z u:=λu v hu hv e=>by
   have hu':=(hW u).mp hu;have hv':=(hW v).mp hv;have hd:=CW.dif G hu' hv';refine List.mem_filter.mpr ⟨(hW _).mpr hd,(hvan hd.1).mpr λi hi=>?_⟩;rw[zcy G hu'.1 hv'.1 (ltp true i hi),e i hi];exact zdE G (hv'.at_lt G (ltp true i hi))
  rcases Nat.lt_or_ge (n-r) j with h|h
  ·rw[show n-r-j=0 by lia,Nat.pow_zero];have:0<Ws.length:=by rw[sz];exact Nat.pow_pos hQ0
   obtain⟨u,hu⟩:=List.exists_mem_of_length_pos this;exact List.length_pos_of_mem (into u u hu hu λ_ _=>rfl)
  ·have h1:=yeS (f:=λu:List Nat=>(plc true z).map λi=>u.getD i 0) (N:=(Ws.filter λu=>van z u).length) (T:=allK (List.range (p^m)) (plc true z).length) (P:=Ws) (λu hu=>hall _ ((hW u).mp hu) (ltp true)) λy=>by
    rcases Nat.eq_zero_or_pos (Ws.filter λu=>decide (((plc true z).map λi=>u.getD i 0)=y)).length with e|e
    ·rw[e];exact Nat.zero_le _
    ·obtain⟨v,hv⟩:=List.exists_mem_of_length_pos e;have hv2:=List.mem_filter.mp hv;refine zfB (f:=λu=>dif p m t u v) (List.Pairwise.filter _ nd) (λu hu=>?_) λu hu w hw e=>?_
     ·have hu2:=List.mem_filter.mp hu;exact into u v hu2.1 hv2.1 (mapeq ((of_decide_eq_true hu2.2).trans (of_decide_eq_true hv2.2).symm))
     ·exact yhM G ((hW u).mp (List.mem_filter.mp hu).1) ((hW w).mp (List.mem_filter.mp hw).1) ((hW v).mp hv2.1) e
   rw[zb7,List.length_range,lt,sz,show n-r=j+(n-r-j) by lia,Nat.pow_add]at h1;exact Nat.le_of_mul_le_mul_left h1 (Nat.pow_pos hQ0)
end
end My
end
section
namespace My
open PySem L2 Dg
local macro_rules | `(tactic| walk_at "rd") => `(tactic| repeat (first | refine ⟨_, rfl, ?_⟩ | refine ⟨_, _, rfl, rfl, ?_⟩))
theorem yeV:∀n k:Nat,bn n k<=2^n
 |_,0=>by rw[yaB];exact Nat.one_le_two_pow
 |0,_+1=>Nat.zero_le _
 |n+1,k+1=>by
  have h1:=yeV n k;have h2:=yeV n (k+1);rw[yaV,Nat.pow_succ];lia
section
variable {P:Program} {w:World} {mg:Str->Option Value} {base:Heap} {f:Addr} {fd:FuncData}
inductive yc4 (vs:List V) (H:Hp) (Q:VK) (E:XK):Prop
 |mk (b k:Nat) (c1:vs=[.int b,.int k]) (c2:b<2^63) (c3:k<=1000) (c4:Q (.int ((b^k:Nat):Int)) H):yc4 vs H Q E
theorem npL{k:Nat}(h:Has P w K mg base k x ps yc4):Has P w K mg base k x ps zah:=by
 obtain⟨f,fd,F,B,kp,m⟩:=h;refine⟨f,fd,F.imp λvs H Q E h=>?_,B,kp,m⟩;obtain⟨b,k,h1,h2,h3,q⟩:=h;exact⟨b,k,h1,by lia,h3,q⟩
theorem yh3(B:Bl mg)(F:Fun K "number_power" "number_power" zbg f fd):FnOk P w K mg base CX0 1 f fd ["base","many"] yc4:=by
 refine F.ok zaL (λvs H Q E h=>?_) (λcdv A outer s H vs Q E hr h=>?_)
 ·obtain⟨b,k,rfl,_⟩:=h;rfl
 obtain⟨b,k,rfl,hb,hk,q⟩:=h;refine⟨_,((2<|>zaL.nd<|>yab)<=<((↑((pv 1)>=>zab))<&>((3&&&zaL.nd),(~~~(@ybh _ _ 2 _ _ _ _ _ _ zaL.nd rfl (Or.inl rfl) (pv 0) zex (by trivial)))))<=<(~~~((pv 2)⁻¹))),?_⟩
 try dsimp only[cxOf]
 refine⟨_,rfl,k,rfl,by lia,by lia,zay (n:=k) (λi σ H'=>H'=H/\∃s,σ=[some (.int b),some (.int k),some (.int ((b^i:Nat):Int)),s]) ⟨rfl,none,rfl⟩ ?_ ?_⟩
 ·rintro i σ H' hi ⟨rfl,s,rfl⟩
  walk_at "rd"
  refine⟨.inr ⟨by lia,by lia⟩,rfl,some (.int (0+(i:Int))),?_⟩;rw[Nat.pow_succ];rfl
 ·rintro σ H' ⟨rfl,s,rfl⟩;exact⟨_,rfl,q⟩
theorem yff(B:Bl mg)(F:Fun K "_law_raised" "_law_raised" yaX f fd):FnOk P w K mg base CX0 1 f fd ["_law_one","_law_many"] yc4:=by
 refine F.ok zao (λvs H Q E h=>?_) (λcdv A outer s H vs Q E hr h=>?_)
 ·obtain⟨b,k,rfl,_⟩:=h;rfl
 obtain⟨b,k,rfl,hb,hk,q⟩:=h;refine⟨_,((2<|>zao.nd<|>yab)<=<((↑((pv 1)>=>zab))<&>((3&&&zao.nd),(~~~(2<|>zao.nd<|>(zav|||(pv 2)|||(pv 0))))))<=<(~~~((pv 2)⁻¹))),?_⟩
 try dsimp only[cxOf]
 refine⟨_,rfl,k,rfl,by lia,by lia,zay (n:=k) (λi σ H'=>H'=H/\∃s,σ=[some (.int b),some (.int k),some (.int ((b^i:Nat):Int)),s]) ⟨rfl,none,rfl⟩ ?_ ?_⟩
 ·rintro i σ H' hi ⟨rfl,s,rfl⟩
  walk_at "rd"
  refine⟨.inr ⟨by lia,by lia⟩,rfl,some (.int (0+(i:Int))),?_⟩;rw[Nat.pow_succ];rfl
 ·rintro σ H' ⟨rfl,s,rfl⟩;exact⟨_,rfl,q⟩
inductive ycj (vs:List V) (H:Hp) (Q:VK) (E:XK):Prop
 |mk (n k:Nat) (c1:vs=[Vn n,Vn k]) (c2:n<=63) (c3:k<=n) (c4:Q (Vn (bn n k)) H):ycj vs H Q E
theorem ybH:yad ["n","k","ways","at"] ["n","k"] (zac zcI):=⟨rfl,rfl,rfl,by decide +kernel,rfl,by decide +kernel,by decide +kernel⟩
theorem yfi(B:Bl mg)(F:Fun K "choices" "choices" zcI f fd):FnOk P w K mg base CX0 1 f fd ["n","k"] ycj:=by
 refine F.ok ybH (λvs H Q E h=>?_) (λcdv A outer s H vs Q E hr h=>?_)
 ·obtain⟨n,k,rfl,_⟩:=h;rfl
 obtain⟨n,k,rfl,hn,hk,q⟩:=h;refine⟨_,((2<|>ybH.nd<|>yab)<=<((↑((pv 1)>=>zab))<&>((3&&&ybH.nd),(~~~(2<|>ybH.nd<|>(zcl|||(zav|||(pv 2)|||(yan|||(pv 0)|||(pv 3)))|||(yag|||(pv 3)|||yab))))))<=<(~~~((pv 2)⁻¹))),?_⟩
 try dsimp only[cxOf]
 refine⟨_,rfl,k,rfl,by lia,by lia,zay (n:=k) (λi σ H'=>H'=H/\∃s,σ=[some (Vn n),some (Vn k),some (Vn (bn n i)),s]) ⟨rfl,none,by rw[yaB];rfl⟩ ?_ ?_⟩
 ·rintro i σ H' hi ⟨rfl,s,rfl⟩
  walk_at "rd"
  refine⟨.inr ⟨by lia,by lia⟩,?_⟩
  walk_at "rd"
  refine⟨⟨by lia,by lia⟩,?_⟩;refine⟨rfl,some (.int (0+(i:Int))),?_⟩;have e:((bn n i:Nat):Int)*((n:Int)-(0+(i:Int)))/(0+(i:Int)+1)=((bn n (i+1):Nat):Int):=by
   rw[<-yio n i,show(n:Int)-(0+(i:Int))=((n-i:Nat):Int) by lia,show(0+(i:Int)+1)=((i+1:Nat):Int) by lia,<-Int.natCast_mul];rfl
  rw[e];rfl
 ·rintro σ H' ⟨rfl,s,rfl⟩;exact⟨_,rfl,q⟩
inductive ycC (vs:List V) (H:Hp) (Q:VK) (E:XK):Prop
 |mk (q n many w':Nat) (c1:vs=[Vn q,Vn n,Vn many,Vn w']) (c2:q<2^63) (c3:n<=63) (c4:w'<=n) (c5:many<=64) (c6:Q (.int ((bn n w':Int)*wc q many w')) H):ycC vs H Q E
theorem zaD:yad ["q","n","many","w","total","sign","j"] ["q","n","many","w"] (zac zbD):=⟨rfl,rfl,rfl,by decide +kernel,rfl,by decide +kernel,by decide +kernel⟩
theorem zfW(B:Bl mg)(h_choices:Has P w K mg base 1 "choices" ["n","k"] ycj)(h_number_power:Has P w K mg base 1 "number_power" ["base","many"] yc4)(F:Fun K "wide_count" "wide_count" zbD f fd):FnOk P w K mg base CX0 2 f fd ["q","n","many","w"] ycC:=by
 refine F.ok zaD (λvs H Q E h=>?_) (λcdv A outer s H vs Q E hr h=>?_)
 ·obtain⟨q,n,many,w',rfl,_⟩:=h;rfl
 obtain⟨q,n,many,w',rfl,hq,hn,hw,hmany,ret⟩:=h;refine⟨_,((4<|>zaD.nd<|>yab)<=<(5<|>zaD.nd<|>yab)<=<((↑((yan|||(pv 3)|||(pv 2))>=>zab))<&>((6&&&zaD.nd),((@ybh _ _ 4 _ _ _ _ _ _ zaD.nd rfl (Or.inl rfl) (zav|||(zav|||(pv 5)|||(h_choices<$>((pv 3)>=>(pv 6)>=>zab)))|||(yan|||(h_number_power<$>((pv 0)>=>(yan|||(yan|||(pv 3)|||(pv 2))|||(pv 6))>=>zab))|||yab)) ycG (by trivial))<=<(~~~(5<|>zaD.nd<|>(@yfk _ _ _ _ _ _ ydh (pv 5)))))))<=<(~~~((zav|||(h_choices<$>((pv 1)>=>(pv 3)>=>zab))|||(pv 4))⁻¹))),?_⟩
 try dsimp only[cxOf]
 have bl:∀a b,a<=63->bn a b<2^64:=λa b h=>Nat.lt_of_le_of_lt (yeV a b) (Nat.lt_of_le_of_lt (Nat.pow_le_pow_right (by decide) h) (by decide))
 have sg2:∀i,sg i=1\/sg i = -1:=λi=>by
  induction i with
  |zero=>exact .inl rfl
  |succ i ih=>show -sg i=1\/-sg i = -1;lia
 refine⟨_,rfl,_,rfl,_,_,rfl,rfl,(w':Int)-(many:Int),rfl,by lia,by lia,?_⟩
 let I1:Nat->St->Hp->Prop:=λi σ H'=>H'=H/\∃s6,σ=[some (Vn q),some (Vn n),some (Vn many),some (Vn w'),some (.int (sN i λj=>sg j*(bn w' j:Int)*((q:Int)^(w'-many-j)-1))),some (.int (sg i)),s6]
 refine zay (n:=((w':Int)-(many:Int)).toNat) I1 ⟨rfl,none,rfl⟩ ?_ ?_
 ·rintro i σ H' hi ⟨rfl,s6,rfl⟩;have hi:i<w'-many:=by lia
  have b1:=bl w' i (by lia);have g1:=sg2 i;dsimp only[zaj]
  walk_at "rd"
  refine⟨w',i,by rw[Int.zero_add];rfl,by lia,by lia,?_⟩
  walk_at "rd"
  refine⟨.inl ⟨by lia,by lia⟩,?_⟩
  walk_at "rd"
  refine⟨q,w'-many-i,by rw[show(w':Int)-(many:Int)-(0+(i:Int))=((w'-many-i:Nat):Int) by lia];rfl,hq,by lia,?_⟩;have small : -(2^64:Int)<sg i*(bn w' i:Int)/\sg i*(bn w' i:Int)<2^64:=by
   rcases g1 with e|e
   ·rw[e,Int.one_mul];exact⟨by lia,by lia⟩
   ·rw[e,Int.neg_mul,Int.one_mul];exact⟨by lia,by lia⟩
  walk_at "rd"
  refine⟨.inl small,?_⟩
  walk_at "rd"
  refine⟨rfl,some (.int (0+(i:Int))),?_⟩;rw[show(sN (i+1) λj=>sg j*(bn w' j:Int)*((q:Int)^(w'-many-j)-1))=(sN i λj=>sg j*(bn w' j:Int)*((q:Int)^(w'-many-j)-1))+sg i*(bn w' i:Int)*(((q^(w'-many-i):Nat):Int)-1) by rw[yaN,Int.natCast_pow]];rfl
 ·rintro σ H' ⟨rfl,s6,rfl⟩;rw[show((w':Int)-(many:Int)).toNat=w'-many by lia];have b1:=bl n w' hn;refine⟨_,rfl,_,rfl,n,w',rfl,hn,hw,_,rfl,_,_,rfl,rfl,.inl ⟨by lia,by lia⟩,?_⟩;exact ret
inductive zbJ (vs:List V) (H:Hp) (Q:VK) (E:XK):Prop
 |mk (q n many:Nat) (c1:vs=[Vn q,Vn n,Vn many]) (c2:q<2^63) (c3:n<=63) (c4:many<=64) (c5:∀r H',Same H H'->H r=none->H' r=some (.tup (((List.range (n+1)).map λw=>cwt q n many w).map V.int))->Q (.ref r) H'):zbJ vs H Q E
theorem zc9:yad ["q","n","many"] ["q","n","many"] (zac yaW):=⟨rfl,rfl,rfl,by decide +kernel,rfl,by decide +kernel,by decide +kernel⟩
theorem zfd(B:Bl mg)(h_wide_count:Has P w K mg base 2 "wide_count" ["q","n","many","w"] ycC)(F:Fun K "wide_counts" "wide_counts" yaW f fd):FnOk P w K mg base CX0 3 f fd ["q","n","many"] zbJ:=by
 refine F.ok zc9 (λvs H Q E h=>?_) (λcdv A outer s H vs Q E hr h=>?_)
 ·obtain⟨q,n,many,rfl,_⟩:=h;rfl
 obtain⟨q,n,many,rfl,hq,hn,hmany,ret⟩:=h;refine⟨_,(~~~((yak<*("tuple",yai,((ycL|||(@zaq _ _ _ _ (yab>=>zab))|||(["w"]⊆(["q","n","many"],[0,1,2],["q","n","many"],yaW,(@zcP _ _ _ _ _ _ _ rfl (B "range" (by decide)) (yab>=>(yag|||(pv 1)|||yab)>=>zab) ⋯ ⋯),(0⊇["w","q","n","many"]),zau,(h_wide_count<$>((pv 1)>=>(pv 2)>=>(pv 3)>=>(pv 0)>=>zab)))))>=>zab)))⁻¹)),?_⟩
 try dsimp only[cxOf]
 refine⟨szl 1,λz hz=>?_⟩;have t1:=yaa hz (.lst [V.int 1]);have ez:upd H z (.lst [V.int 1]) z=some (.lst [V.int 1]):=zaa;generalize upd H z (.lst [V.int 1])=H1 at t1 ez ⊢;refine⟨_,rfl,_,_,rfl,rfl,?_⟩;refine⟨1,((n+1:Nat):Int),rfl,by lia,?_⟩;refine zan za0 (λk acc H'=>H'=H1/\acc=((List.range k).map λw=>cwt q n many (w+1)).map V.int) ⟨rfl,rfl⟩ (λ_ _ _ _ _=>trivial) ?_ ?_ ?_
 ·rintro k acc H' hk ⟨_,rfl⟩;rw[List.length_map,List.length_map,List.length_range];exact zai (by lia)
 ·rintro k acc x H' H'' hk ⟨rfl,rfl⟩ ⟨rfl,rfl⟩;refine⟨_,rfl,_,rfl,_,rfl,_,rfl,q,n,many,k+1,by rw[show(1+(k:Int))=((k+1:Nat):Int) by lia];rfl,hq,hn,by lia,hmany,rfl,?_⟩;rw[List.range_succ,List.map_append,List.map_append];rfl
 rw[show(((n+1:Nat):Int)-1).toNat=n by lia];rintro acc H2 ⟨rfl,rfl⟩ D hD;have t2:=yaa hD (.lst (((List.range n).map λw=>cwt q n many (w+1)).map V.int));refine⟨z,D,_,_,rfl,rfl,t2 _ _ ez,zaa,by rw[List.length_map,List.length_map,List.length_range];exact szl _ (by simp;lia),λl hl=>?_⟩;have t3:=t2.trans (yaa hl (.lst ([V.int 1]++((List.range n).map λw=>cwt q n many (w+1)).map V.int)));refine⟨l,_,rfl,.inl ⟨SqL.of zaa,λr hr=>?_⟩⟩;have t4:=(t1.trans t3).trans (yaa hr (.tup ([V.int 1]++((List.range n).map λw=>cwt q n many (w+1)).map V.int)));refine ret r _ t4 ((t1.trans t3).free hr) ?_;have e:((List.range (n+1)).map λw=>cwt q n many w).map V.int=[V.int 1]++((List.range n).map λw=>cwt q n many (w+1)).map V.int:=by
  rw[List.range_succ_eq_map,List.map_cons,List.map_cons,List.map_map,List.map_map,List.map_map];rfl
 rw[e];exact zaa
end
end My
end
section
namespace My
open PySem L2 Dg
def bnL(i:Nat):List Nat:=(List.range (i+1)).map λj=>bn i j
def BnR(H:Hp)(ds:List Addr):Prop:=∀(i:Nat) d,ds[i]?=some d->H d=some (.lst ((bnL i).map Vn))
theorem yiq(i k:Nat)(hk:k<i+2):(0::bnL i).getD k 0+(bnL i++[0]).getD k 0=bn (i+1) k:=by
 have h1:∀j,(bnL i++[0]).getD j 0=if j<=i then bn i j else 0:=λj=>by
  unfold bnL;by_cases c:j<=i
  ·rw[if_pos c];simp[List.getD,List.getElem?_append,show j<i+1 by lia]
  ·rw[if_neg c];simp[List.getD,List.getElem?_append,show ¬ j<i+1 by lia];by_cases c2:j-(i+1)=0
   ·rw[c2];rfl
   ·rw[List.getElem?_eq_none (by simp;lia)];rfl
 rw[h1];cases k with
 |zero=>rw[if_pos (by lia),yaB,yaB];rfl
 |succ k=>
  rw[yaV];have h2:(0::bnL i).getD (k+1) 0=bn i k:=by
   unfold bnL;simp[List.getD,show k<i+1 by lia]
  rw[h2];by_cases c:k+1<=i
  ·rw[if_pos c]
  ·rw[if_neg c,show bn i (k+1)=0 from ybd (by lia)]
section
variable {P:Program} {w:World} {mg:Str->Option Value} {base:Heap} {f:Addr} {fd:FuncData}
inductive ybU (vs:List V) (H:Hp) (Q:VK) (E:XK):Prop
 |mk (most:Nat) (c1:vs=[Vn most]) (c2:most<=63) (c3:∀r (ds:List Addr) H',Same H H'->H r=none->H' r=some (.lst (ds.map V.ref))->ds.length=most+1->BnR H' ds->(∀d∈ds,H d=none)->Q (.ref r) H'):ybU vs H Q E
theorem za3:yad ["_law_most","_law_rows","_law_n"] ["_law_most"] (zac zaS):=⟨rfl,rfl,rfl,by decide +kernel,rfl,by decide +kernel,by decide +kernel⟩
theorem zew(B:Bl mg)(F:Fun K "_law_choices" "_law_choices" zaS f fd):FnOk P w K mg base CX0 1 f fd ["_law_most"] ybU:=by
 refine F.ok za3 (λvs H Q E h=>?_) (λcdv A outer s H vs Q E hr h=>?_)
 ·obtain⟨most,rfl,_⟩:=h;rfl
 obtain⟨most,rfl,hm,ret⟩:=h;refine⟨_,((1<|>za3.nd<|>(@zaq _ _ _ _ ((@zaq _ _ _ _ (yab>=>zab))>=>zab)))<=<((↑((pv 0)>=>zab))<&>((2&&&za3.nd),(~~~(@zcj _ _ _ _ (@yfp _ _ _ _ _ _ _ _ _ _ _ _ PySem.F.plainAttrs_list PySem.F.slot_list_append PySem.F.type_list_append zcd (pv 1) ((["_law_a","_law_b"]⊆([],[],["_law_most","_law_rows","_law_n"],zaS,(@yf1 _ _ _ _ _ _ _ _ _ rfl (B "zip" (by decide)) ((ycL|||(@zaq _ _ _ _ (yab>=>zab))|||(yah<<<(pv 1)<<<(@yfk _ _ _ _ _ _ ydh yab)))>=>(ycL|||(yah<<<(pv 1)<<<(@yfk _ _ _ _ _ _ ydh yab))|||(@zaq _ _ _ _ (yab>=>zab)))>=>zab) ⋯ ⋯),(@ydk _ _ _ _ 2 _ K rfl rfl ((0⊇["_law_a","_law_b"])∩((1⊇["_law_a","_law_b"])∩yav)) ⋯ ⋯),zau,(yag|||(pv 0)|||(pv 1))))>=>zab) ⋯ ⋯ ⋯ ⋯ ⋯) ⋯))))<=<(~~~((pv 1)⁻¹))),?_⟩
 try dsimp only[cxOf]
 refine⟨szl 1,λd0 hd0=>?_⟩;have t0:=yaa hd0 (.lst [V.int 1]);refine⟨szl 1,λrl hrl=>?_⟩;have t1:=t0.trans (yaa hrl (.lst [V.ref d0]));have nrl:H rl=none:=t0.free hrl;have er0:upd (upd H d0 (.lst [V.int 1])) rl (.lst [V.ref d0]) rl=some (.lst ([d0].map V.ref)):=zaa;have hb0:BnR (upd (upd H d0 (.lst [V.int 1])) rl (.lst [V.ref d0])) [d0]:=λi d e=>by
  have:i=0:=by have:=(List.getElem?_eq_some_iff.mp e).1;simp at this;lia
  subst this;cases e;exact yaa hrl _ _ _ zaa
 dsimp only[zaj];generalize upd (upd H d0 (.lst [V.int 1])) rl (.lst [V.ref d0])=H1 at t1 er0 hb0 ⊢;refine⟨_,rfl,(most:Int),rfl,by lia,by lia,?_⟩
 let I1:Nat->St->Hp->Prop:=λi σ H'=>Same H H'/\∃(ds:List Addr) (s2:Option V),H' rl=some (.lst (ds.map V.ref))/\ds.length=i+1/\BnR H' ds/\(∀d∈ds,H d=none)/\σ=[some (Vn most),some (.ref rl),s2]
 refine zay (lo:=0) (n:=(most:Int).toNat) I1 ⟨t1,[d0],none,er0,rfl,hb0,λd hd=>by rw[List.mem_singleton.mp hd];exact hd0,rfl⟩ ?_ ?_
 ·rintro i σ H2 hi ⟨s2',ds,s2,er,ld,hb,hf,rfl⟩;rw[Int.toNat_natCast]at hi;dsimp only[zaj];refine⟨_,rfl,.inl ⟨rfl,_,SqL.of er⟩,?_⟩;obtain⟨dl,edl⟩:∃dl,ds[i]?=some dl:=⟨_,List.getElem?_eq_getElem (by lia)⟩
  have hl:=hb i dl edl;have at1:atI (ds.map V.ref) (-1)=some (.ref dl):=ygX (by rw[List.length_map,ld,Nat.add_sub_cancel,List.getElem?_map,edl];rfl);refine⟨szl 1,λz1 hz1=>?_⟩;have u1:=yaa hz1 (.lst [V.int 0]);refine⟨_,rfl,_,rfl,rl,_,_,.ref dl,rfl,rfl,SqL.of (u1 _ _ er),at1,?_⟩;refine⟨z1,dl,_,_,rfl,rfl,zaa,u1 _ _ hl,szl _ (by simp[bnL];lia),λa1 ha1=>?_⟩;have u2:=u1.trans (yaa ha1 (.lst ([V.int 0]++(bnL i).map Vn)));have ea1:upd (upd H2 z1 (.lst [V.int 0])) a1 (.lst ([V.int 0]++(bnL i).map Vn)) a1=some (.lst ((0::bnL i).map Vn)):=zaa;generalize upd (upd H2 z1 (.lst [V.int 0])) a1 (.lst ([V.int 0]++(bnL i).map Vn))=H3 at u2 ea1 ⊢;refine⟨_,rfl,_,rfl,rl,_,_,.ref dl,rfl,rfl,SqL.of (u2 _ _ er),at1,?_⟩;refine⟨szl 1,λz2 hz2=>?_⟩;have u3:=u2.trans (yaa hz2 (.lst [V.int 0]));refine⟨dl,z2,_,_,rfl,rfl,u3 _ _ hl,zaa,szl _ (by simp[bnL];lia),λa2 ha2=>?_⟩;have u4:=yaa ha2 (.lst ((bnL i).map Vn++[V.int 0]));have ea2:upd (upd H3 z2 (.lst [V.int 0])) a2 (.lst ((bnL i).map Vn++[V.int 0])) a2=some (.lst ((bnL i++[0]).map Vn)):=by rw[List.map_append];exact zaa
  have ea1:=u4 _ _ (yaa hz2 (.lst [V.int 0]) _ _ ea1);have u5:=u3.trans u4;generalize upd (upd H3 z2 (.lst [V.int 0])) a2 (.lst ((bnL i).map Vn++[V.int 0]))=H4 at u5 ea1 ea2 ⊢;have la:(0::bnL i).length=i+2:=by simp[bnL]
  have lb:(bnL i++[0]).length=i+2:=by simp[bnL]
  refine⟨false,false,a1,a2,rfl,⟨_,SqL.of ea1⟩,⟨_,SqL.of ea2⟩,?_⟩;refine zan (ydK (b1:=false) (b2:=false) (xs:=(0::bnL i).map Vn) (ys:=(bnL i++[0]).map Vn)) (λk acc H'=>Same H4 H'/\acc=((List.range k).map λj=>bn (i+1) j).map Vn) ⟨Same.refl _,rfl⟩ (λi acc H' _ h=>⟨SqL.of (h.1 _ _ ea1),SqL.of (h.1 _ _ ea2)⟩) ?_ ?_ ?_
  ·rintro k acc H' hk ⟨_,rfl⟩;rw[List.length_map,List.length_map,la,lb]at hk;rw[List.length_map,List.length_map,List.length_range];exact zai (by lia)
  ·rintro k acc z H5 H6 hk ⟨s5,rfl⟩ ⟨Tt,u,v,rfl,eu,ev,hT,rfl⟩;rw[List.length_map,List.length_map,la,lb]at hk;rw[zar (by lia)]at eu ev;cases eu;cases ev;refine⟨Tt,_,rfl,SqT.of zaa,rfl,_,_,rfl,_,_,rfl,rfl,?_⟩;refine⟨_,rfl,_,rfl,_,_,rfl,rfl,s5.trans (yaa hT _),?_⟩;have e:(0::bnL i).getD k 0+(bnL i++[0]).getD k 0=bn (i+1) k:=yiq i k (by lia);rw[List.range_succ,List.map_append,List.map_append,<-Int.natCast_add,e];rfl
  rw[List.length_map,List.length_map,la,lb];rintro acc H5 ⟨s5,rfl⟩ D hD;have fD:=(s2'.trans (u5.trans s5)).free hD;have u6:=(u5.trans s5).trans (yaa hD (.lst (((List.range (min (i+2) (i+2))).map λj=>bn (i+1) j).map Vn)));rw[show((List.range (min (i+2) (i+2))).map λj=>bn (i+1) j)=bnL (i+1) by rw[Nat.min_self];rfl]at u6 ⊢;have eD:upd H5 D (.lst ((bnL (i+1)).map Vn)) D=some (.lst ((bnL (i+1)).map Vn)):=zaa;generalize upd H5 D (.lst ((bnL (i+1)).map Vn))=H6 at u6 eD ⊢;refine⟨rl,_,_,rfl,rfl,u6 _ _ er,Nat.lt_of_lt_of_le (show _<5000 by rw[List.length_map];lia) (szl _),?_⟩;refine⟨zaX (s2'.trans u6) nrl,ds++[D],_,by rw[List.map_append];exact zaa,by rw[List.length_append,ld];rfl,λk d e=>?_,λd hd=>(List.mem_append.mp hd).elim (hf d) λe=>by rw[List.mem_singleton.mp e];exact fD,rfl⟩;have hne:∀d,H6 d=some (.lst ((bnL k).map Vn))->d≠rl->upd H6 rl (.lst (ds.map V.ref++[V.ref D])) d=some (.lst ((bnL k).map Vn)):=λd h n=>by rw[zad n];exact h
  rw[List.getElem?_append]at e;have nr:∀d',H6 d'=some (.lst ((bnL k).map Vn))->d'≠rl:=λd' h q=>by
   rw[q,u6 _ _ er]at h;have h:=congrArg (λo=>match o with|some (HO.lst (x::_))=>(match x with|V.ref _=>0|_=>1)|_=>2) h;cases ds with
   |nil=>exact absurd ld (by simp)
   |cons a ds=>simp[bnL,List.range_succ_eq_map]at h
  split at e
  ·have:=u6 _ _ (hb k d e);exact hne d this (nr d this)
  ·rename_i c;have:k=i+1:=by
    have:=(List.getElem?_eq_some_iff.mp e).1;simp at this;lia
   subst this;rw[ld,Nat.sub_self]at e;cases e;exact hne D eD (nr D eD)
 ·rw[Int.toNat_natCast];rintro σ H2 ⟨s2',ds,s2,er,ld,hb,hf,rfl⟩;exact⟨_,rfl,ret rl ds H2 s2' nrl er ld hb hf⟩
end
end My
end
section
namespace My
open PySem L2 Dg
def cwL(q n many:Nat):List Int:=(List.range (n+1)).map λw=>cwt q n many w
theorem zbR(q n many:Nat):(cwL q n many).length=n+1:=by simp[cwL]
theorem zfM{q n many w:Nat}(h:w<=n):((cwL q n many).map V.int)[w]?=some (V.int (cwt q n many w)):=by
 unfold cwL;rw[List.getElem?_map,List.getElem?_map,List.getElem?_range (by lia)];rfl
theorem zhn{q n many w:Nat}(h0:0<w)(h:w<=many):cwt q n many w=0:=by
 obtain⟨w,rfl⟩:∃v,w=v+1:=⟨w-1,by lia⟩
 show(bn n (w+1):Int)*wc q many (w+1)=0;unfold wc;rw[show w+1-many=0 by lia];exact Int.mul_zero _
theorem yiv{q n many:Nat}(h:many<=n):cutV ((cwL q n many).map V.int) (some 1) (some ((many:Int)+1))=(((cwL q n many).drop 1).take many).map V.int:=by
 unfold cutV;rw[show HT.sIx ((cwL q n many).map V.int).length 0 (some 1)=min 1 ((cwL q n many).map V.int).length from HT.sIx_nat _ _ 1,show(some ((many:Int)+1))=some (((many+1:Nat):Int)) from rfl,HT.sIx_nat,List.length_map,zbR,show min 1 (n+1)=1 by lia,show min (many+1) (n+1)-1=many by lia,List.map_take,List.map_drop]
theorem yhO{q n many:Nat}(h:many<=n):((((cwL q n many).drop 1).take many).any λx=>x != 0)=false:=by
 rw[List.any_eq_false];intro x hx;obtain⟨i,hi,e⟩:=List.getElem_of_mem hx;rw[List.length_take,List.length_drop,zbR]at hi;rw[List.getElem_take,List.getElem_drop]at e;unfold cwL at e;rw[List.getElem_map,List.getElem_range]at e;rw[<-e,zhn (by lia) (by lia)];decide
theorem zhe(f:Nat->Int):∀n,((List.range n).map f).sum=sN n f
 |0=>rfl
 |n+1=>by
  rw[List.range_succ,List.map_append,List.sum_append,zhe f n,yaN];simp
section
variable {P:Program} {w:World} {mg:Str->Option Value} {base:Heap} {f:Addr} {fd:FuncData}
inductive zcZ (vs:List V) (H:Hp) (Q:VK) (E:XK):Prop
 |mk (q n many:Nat) (rl:Addr) (ds:List Addr) (c1:vs=[Vn q,Vn n,Vn many,.ref rl]) (c2:q<2^63) (c3:n<=63) (c4:many<=n) (c5:H rl=some (.lst (ds.map V.ref))) (c6:ds.length=64) (c7:BnR H ds) (c8:∀H',Same H H'->Q (.bl true) H'):zcZ vs H Q E
theorem zaC:yad ["_law_q","_law_n","_law_many","_law_rows","_law_found","_law_j","_law_due","_law_some","_law_total"] ["_law_q","_law_n","_law_many","_law_rows"] (zac zaT):=⟨rfl,rfl,rfl,by decide +kernel,rfl,by decide +kernel,by decide +kernel⟩
theorem zfN(B:Bl mg)(h_wide_counts:Has P w K mg base 3 "wide_counts" ["q","n","many"] zbJ)(h__law_raised:Has P w K mg base 1 "_law_raised" ["_law_one","_law_many"] yc4)(F:Fun K "_law_right" "_law_right" zaT f fd):FnOk P w K mg base CX0 4 f fd ["_law_q","_law_n","_law_many","_law_rows"] zcZ:=by
 refine F.ok zaC (λvs H Q E h=>?_) (λcdv A outer s H vs Q E hr h=>?_)
 ·obtain⟨q,n,many,rl,ds,rfl,_⟩:=h;rfl
 obtain⟨q,n,many,rl,ds,rfl,hq,hn,hm,er,ld,hb,ret⟩:=h;refine⟨_,((4<|>zaC.nd<|>(h_wide_counts<$>((pv 0)>=>(pv 1)>=>(pv 2)>=>zab)))<=<((@PW.pt _ _ _ (@zft _ _ _ _ _ _ _ (@yeO _ _ _ _ (@zda _ _ _ (yfT>>>("isinstance",PyProof.Rows.boot_isinstance,((pv 4)>=>("tuple"⊂yai)>=>zab))) (by intro _;rfl))) (@yd1 _ _ _ _ (zd2∪(yae>>>("len",PySem.boot_len,((pv 4)>=>zab)))∪(yag|||(pv 1)|||yab)))))*>((~~~(yef⁻¹)),yao))<=<((@yeO _ _ _ _ (@zda _ _ _ ((ze4 rfl)>>>("all",PyProof.Rows.boot_all,((["_law_one"]⊆([],[],["_law_q","_law_n","_law_many","_law_rows","_law_found","_law_j","_law_due","_law_some","_law_total"],zaT,(@yb0 _ _ _ _ (pv 4)),(0⊇["_law_one"]),zau,(@yg9 _ _ _ _ _ _ _ ((ygu (K:=K) rfl)>>>("isinstance",PyProof.Rows.boot_isinstance,((pv 0)>=>("int"⊂zcJ)>=>zab))) (@yg5 _ _ _ _ _ (@zii _ _ _ _ ((ygm (K:=K) rfl)>>>("isinstance",PyProof.Rows.boot_isinstance,((pv 0)>=>("bool"⊂yd7)>=>zab))))))))>=>zab))) (by intro _;rfl)))*>((~~~(yef⁻¹)),yao))<=<((@PW.pt _ _ _ (@zft _ _ _ _ _ _ _ (zd2∪(zam<<<(pv 4)<<<yab)∪yab) (@yd1 _ _ _ _ (@zda _ _ _ ((yfw rfl)>>>("any",zen,((@zcw _ _ _ _ _ _ _ _ _ _ zgl (pv 4) (@zcO _ _ _ yab) (@zcO _ _ _ (yag|||(pv 2)|||yab)))>=>zab))) (by intro _;rfl)))))*>((~~~(yef⁻¹)),yao))<=<((↑((yag|||(pv 1)|||yab)>=>zab))<&>((5&&&zaC.nd),((6<|>zaC.nd<|>(zav|||(yah<<<(yah<<<(pv 3)<<<(pv 1))<<<(pv 5))|||(h__law_raised<$>((pv 0)>=>((zd0 rfl)>>>("max",ycN,(yab>=>(yan|||(yan|||(pv 1)|||(pv 2))|||(pv 5))>=>zab)))>=>zab))))<=<(7<|>zaC.nd<|>((ybY rfl)<*("list",za7,((@zcD _ _ _ _ _ rfl (B "range" (by decide)) ((yag|||(yan|||(pv 1)|||(pv 5))|||yab)>=>zab) ⋯)>=>zab))))<=<(8<|>zaC.nd<|>((yge rfl)>>>("sum",PyProof.Rows.boot_sum,((["_law_w"]⊆(["_law_j","_law_found","_law_rows","_law_n"],[5,4,3,1],["_law_q","_law_n","_law_many","_law_rows","_law_found","_law_j","_law_due","_law_some","_law_total"],zaT,(@zaO _ _ _ _ (pv 7)),(0⊇["_law_w","_law_j","_law_found","_law_rows","_law_n"]),zau,(zav|||((ze5 (K:=K) rfl)<<<((ze5 (K:=K) rfl)<<<(pv 3)<<<(yan|||(pv 4)|||(pv 0)))<<<(pv 1))|||((yhr (K:=K) rfl)<<<(pv 2)<<<(pv 0)))))>=>zab))))<=<(~~~((zd2∪(pv 8)∪(pv 6))*>((~~~(yef⁻¹)),yao))))))<=<(~~~((@zcC _ _ _ _ _ _ _ _ (ze1 hr.units0) (h_wide_counts<$>((pv 0)>=>(pv 1)>=>(pv 2)>=>zab)) (pv 4) (ydi _))⁻¹))),?_⟩
 try dsimp only[cxOf]
 refine⟨_,rfl,_,rfl,_,rfl,q,n,many,rfl,hq,hn,by lia,λfr H1 s1 nfr e1=>?_⟩;change H1 fr=some (.tup ((cwL q n many).map V.int)) at e1;have bl:∀a b,a<=63->bn a b<2^64:=λa b h=>Nat.lt_of_le_of_lt (yeV a b) (Nat.lt_of_le_of_lt (Nat.pow_le_pow_right (by decide) h) (by decide))
 dsimp only[zaj];refine⟨_,rfl,_,"tuple",rfl,.inr ⟨rfl,_,SqT.of e1⟩,?_⟩;refine⟨true,rfl,?_⟩;refine⟨_,rfl,fr,_,rfl,.inr (SqT.of e1),?_⟩;refine⟨_,rfl,_,_,rfl,rfl,rfl,_,rfl,?_⟩;refine ite2 (λc=>absurd c (by rw[List.length_map,zbR];simp)) (λ_=>?_);refine⟨_,rfl,fr,rfl,⟨_,SqT.of e1⟩,?_⟩;refine zan (zaW (xs:=(cwL q n many).map V.int)) (λk acc H'=>H'=H1/\acc=(List.replicate k true).map V.bl) ⟨rfl,rfl⟩ (λi acc H' _ h=>h.1 ▸ SqT.of e1) ?_ ?_ ?_
 ·rintro k acc H' hk ⟨_,rfl⟩;rw[List.length_map,zbR]at hk;rw[List.length_map,List.length_replicate];exact zai (by lia)
 ·rintro k acc x H' H'' hk ⟨rfl,rfl⟩ ⟨rfl,ex⟩;rw[List.length_map,zbR]at hk;rw[zfM (by lia)]at ex;cases ex;refine⟨_,rfl,_,"int",rfl,rfl,true,rfl,_,rfl,_,"int",rfl,rfl,false,rfl,rfl,?_⟩;rw[List.replicate_succ',List.map_append];rfl
 rw[List.length_map,zbR];rintro acc H2 ⟨rfl,rfl⟩ D hD;have s2:=yaa hD (.lst ((List.replicate (n+1) true).map V.bl));have e2:=s2 _ _ e1;refine⟨D,_,rfl,SqL.of zaa,_,rfl,?_⟩;refine ite2 (λc=>absurd c (by simp)) (λ_=>?_);generalize upd H2 D (.lst ((List.replicate (n+1) true).map V.bl))=H3 at s2 e2 ⊢;have s3:=s1.trans s2;dsimp only[yex];refine⟨_,rfl,fr,_,_,_,rfl,rfl,SqT.of e2,zaz (j:=0) (zfM (Nat.zero_le _)),rfl,_,rfl,?_⟩;refine ite2 (λc=>absurd c (by simp[cwt])) (λ_=>?_);refine⟨_,rfl,_,rfl,_,rfl,_,_,rfl,rfl,_,rfl,fr,_,rfl,SqT.of e2,?_⟩;rw[yiv hm];have lz:(((cwL q n many).drop 1).take many).length<(cwL q n many).length:=by rw[List.length_take,List.length_drop,zbR];lia
 refine⟨λc=>absurd (congrArg List.length c) (by rw[List.length_map,List.length_map];lia),λz hz=>?_⟩;have s4:=yaa hz (.tup ((((cwL q n many).drop 1).take many).map V.int));have e4:=s4 _ _ e2;refine⟨z,_,rfl,SqT.of zaa,_,rfl,?_⟩;rw[yhO hm];refine ite2 (λc=>absurd c (by decide)) (λ_=>?_);have s5:=s3.trans s4;generalize upd H3 z (.tup ((((cwL q n many).drop 1).take many).map V.int))=H5 at e4 s5 ⊢;dsimp only[yex];have row:∀(H':Hp),Same H H'->∀i,i<=63->∃d,(ds.map V.ref)[i]?=some (.ref d)/\H' d=some (.lst ((bnL i).map Vn)):=λH' s' i hi=>by
  obtain⟨d,ed⟩:∃d,ds[i]?=some d:=⟨_,List.getElem?_eq_getElem (by lia)⟩
  exact⟨d,by rw[List.getElem?_map,ed];rfl,s' _ _ (hb i d ed)⟩
 have bat:∀i j,j<=i->((bnL i).map Vn)[j]?=some (Vn (bn i j)):=λi j h=>by
  unfold bnL;rw[List.getElem?_map,List.getElem?_map,List.getElem?_range (by lia)];rfl
 refine⟨_,rfl,_,_,rfl,rfl,(n:Int)+1,rfl,by lia,by lia,?_⟩
 let I1:Nat->St->Hp->Prop:=λi σ H'=>Same H H'/\H' fr=some (.tup ((cwL q n many).map V.int))/\∃s5 s6 s7 s8,σ=[some (Vn q),some (Vn n),some (Vn many),some (.ref rl),some (.ref fr),s5,s6,s7,s8]
 refine zay (lo:=0) (n:=((n:Int)+1).toNat) I1 ⟨s5,e4,_,_,_,_,rfl⟩ ?_ ?_
 ·rintro j σ H6 hj ⟨s6,e6,v5,v6,v7,v8,rfl⟩;have hj:j<=n:=by lia
  rw[show V.int (0+(j:Int))=Vn j by rw[Int.zero_add]];dsimp only[zaj];obtain⟨dn,edn,hdn⟩:=row H6 s6 n hn;have b1:=bl n j hn;refine⟨_,rfl,_,rfl,rl,_,_,.ref dn,rfl,rfl,SqL.of (s6 _ _ er),zaz edn,?_⟩;refine⟨_,rfl,dn,_,_,Vn (bn n j),rfl,rfl,SqL.of hdn,zaz (bat n j hj),?_⟩;refine⟨_,rfl,_,rfl,_,rfl,_,_,rfl,rfl,_,rfl,_,_,rfl,rfl,_,_,rfl,q,n-many-j,?_,hq,by lia,?_⟩
  ·show [Vn q,V.int (if (n:Int)-(many:Int)-(j:Int)>0 then(n:Int)-(many:Int)-(j:Int) else 0)]=_;rw[show(if (n:Int)-(many:Int)-(j:Int)>0 then(n:Int)-(many:Int)-(j:Int) else 0)=((n-many-j:Nat):Int) by split <;> lia]
  refine⟨_,_,rfl,rfl,.inl ⟨by lia,by lia⟩,?_⟩;dsimp only[zaj];refine⟨_,rfl,_,rfl,_,_,rfl,rfl,_,_,rfl,rfl,(n:Int)-(j:Int)+1,rfl,λrg hrg=>⟨rg,0,(n:Int)-(j:Int)+1,rfl,zaa,by lia,by rw[show((n:Int)-(j:Int)+1-0).toNat=n-j+1 by lia];exact szl _ (by lia),λl hl=>?_⟩⟩;have t1:=yaa hrg (.rng 0 ((n:Int)-(j:Int)+1));have e1:L2.intsFrom 0 ((n:Int)-(j:Int)+1-0).toNat=(List.range (n-j+1)).map Vn:=by
   rw[show((n:Int)-(j:Int)+1-0).toNat=n-j+1 by lia];unfold L2.intsFrom;refine List.map_congr_left λi _=>?_
   rw[Int.zero_add]
  rw[e1];have t2:=t1.trans (yaa hl (.lst ((List.range (n-j+1)).map Vn)));have el:upd (upd H6 rg (.rng 0 ((n:Int)-(j:Int)+1))) l (.lst ((List.range (n-j+1)).map Vn)) l=some (.lst ((List.range (n-j+1)).map Vn)):=zaa;generalize upd (upd H6 rg (.rng 0 ((n:Int)-(j:Int)+1))) l (.lst ((List.range (n-j+1)).map Vn))=H7 at t2 el ⊢;have s7:=s6.trans t2;have e7:=t2 _ _ e6;dsimp only[zaj];refine⟨_,rfl,l,rfl,⟨_,SqL.of el⟩,?_⟩;refine zan (yaH (xs:=(List.range (n-j+1)).map Vn)) (λk acc H'=>H'=H7/\acc=((List.range k).map λw=>(bn (n-w) j:Int)*cwt q n many w).map V.int) ⟨rfl,rfl⟩ (λi acc H' _ h=>h.1 ▸ SqL.of el) ?_ ?_ ?_
  ·rintro k acc H' hk ⟨_,rfl⟩;rw[List.length_map,List.length_range]at hk;rw[List.length_map,List.length_map,List.length_range];exact zai (by lia)
  ·rintro k acc x H' H'' hk ⟨rfl,rfl⟩ ⟨rfl,ex⟩;rw[List.length_map,List.length_range]at hk;rw[List.getElem?_map,List.getElem?_range hk]at ex;cases ex;obtain⟨dk,edk,hdk⟩:=row H'' s7 (n-k) (by lia);have bk:=bl (n-k) j (by lia);refine⟨_,rfl,_,rfl,_,rfl,_,_,rfl,rfl,rl,_,_,.ref dk,rfl,rfl,SqL.of (s7 _ _ er),by rw[show(n:Int)-(k:Int)=((n-k:Nat):Int) by lia];exact zaz edk,?_⟩;refine⟨_,rfl,dk,_,_,Vn (bn (n-k) j),rfl,rfl,SqL.of hdk,zaz (bat (n-k) j (by lia)),?_⟩;refine⟨_,rfl,_,rfl,fr,_,_,_,rfl,rfl,SqT.of e7,zaz (zfM (by lia)),?_⟩;refine⟨_,_,rfl,rfl,.inl ⟨by lia,by lia⟩,rfl,?_⟩;rw[List.range_succ,List.map_append,List.map_append];rfl
  rw[List.length_map,List.length_range];rintro acc H8 ⟨rfl,rfl⟩ D hD;have t3:=yaa hD (.lst (((List.range (n-j+1)).map λw=>(bn (n-w) j:Int)*cwt q n many w).map V.int));refine⟨D,_,rfl,SqL.of zaa,?_⟩;rw[zhe,yf9 q n many j hj,<-Int.natCast_pow];have s8:=s7.trans t3;have e8:=t3 _ _ e7;generalize upd H8 D (.lst (((List.range (n-j+1)).map λw=>(bn (n-w) j:Int)*cwt q n many w).map V.int))=H9 at s8 e8 ⊢;dsimp only[zaj];refine⟨_,rfl,_,rfl,rfl,_,rfl,?_⟩;refine ite2 (λc=>absurd c (by simp)) (λ_=>?_);exact⟨s8,e8,_,_,_,_,rfl⟩
 ·rintro σ H6 ⟨s6,e6,v5,v6,v7,v8,rfl⟩;refine⟨_,rfl,_,rfl,_,rfl,q,n,many,rfl,hq,hn,by lia,λf2 H7 s7 nf2 e7=>?_⟩;change H7 f2=some (.tup ((cwL q n many).map V.int)) at e7;refine⟨_,rfl,f2,fr,_,_,rfl,rfl,SqT.of e7,SqT.of (s7 _ _ e6),?_⟩;have:=ret H7 (s6.trans s7)
  simpa using this
end
end My
end
section
namespace My
open PySem L2 Dg
theorem ygK{n s:Nat}{ks:List Int}(n0:0<n)(nd:ks.Nodup)(hk:∀k∈ks,k∈((List.range n).map λk=>k*s%n).map λx:Nat=>(x:Int))(hl:n<=ks.length):∃j,j*s%n=1%n:=by
 refine Classical.byContradiction λhn=>?_
 have h1:=zdQ (l:=((List.range n).erase (1%n)).map λx:Nat=>(x:Int)) nd λk h=>by
  obtain⟨x,hx,rfl⟩:=List.mem_map.mp (hk k h);obtain⟨j,_,rfl⟩:=List.mem_map.mp hx;exact List.mem_map.mpr ⟨_,(List.mem_erase_of_ne λe=>hn ⟨j,e⟩).mpr (List.mem_range.mpr (Nat.mod_lt _ n0)),rfl⟩
 rw[List.length_map,List.length_erase_of_mem (List.mem_range.mpr (Nat.mod_lt _ n0)),List.length_range]at h1
 lia
theorem ydZ{n s j x:Nat}(h:j*s%n=1%n)(hx:x*s%n=0):x%n=0:=by
 have h1:x*(j*s)%n=0:=by
  rw[show x*(j*s)=x*s*j by rw[Nat.mul_left_comm,Nat.mul_comm],Nat.mul_mod,hx,Nat.zero_mul,Nat.zero_mod]
 rw[Nat.mul_mod,h,<-Nat.mul_mod,Nat.mul_one]at h1;exact h1
theorem zhH{n b s j r:Nat}(h:j*s%n=1%n)(hr:r<=n):((List.range r).map λk=>(b+k*s)%n).Nodup:=by
 have key:∀a c,a<c->c<r->(b+a*s)%n=(b+c*s)%n->False:=λa c h1 h2 e=>by
  have h3:=Nat.sub_mod_eq_zero_of_mod_eq e.symm;rw[show b+c*s-(b+a*s)=(c-a)*s by rw[Nat.sub_mul];lia]at h3;have h4:=ydZ h h3;rw[Nat.mod_eq_of_lt (by lia)]at h4
  lia
 refine ya0 _ λa c ha hc e=>?_
 rcases Nat.lt_trichotomy a c with h1|h1|h1
 ·exact(key a c h1 hc e).elim
 ·exact h1
 ·exact(key c a h1 ha e.symm).elim
section
variable {p m t:Nat} (G:Good p m t)
include G
theorem zgz{root n s j:Nat}(hr:root<p^m)(o:Ord p m t root n)(h:j*s%n=1%n):Ord p m t (pw p m t root s) n:=by
 have hp:=G.hp;have hm:=G.hm;refine⟨o.pos,?_,λi h0 h1 e=>?_⟩
 ·rw[<-yaF hp hm,Nat.mul_comm,yaF hp hm,o.one,ybO hp hm]
 ·rw[<-yaF hp hm]at e;have h2:=Ord.dvd G hr o e;rw[Nat.mul_comm]at h2;have h3:=ydZ h h2;rw[Nat.mod_eq_of_lt h1]at h3
  lia
theorem yft{root n:Nat}(hr:root<p^m)(o:Ord p m t root n)(a:Nat):pw p m t root (a%n)=pw p m t root a:=by
 have hp:=G.hp;have hm:=G.hm
 conv=>rhs;rw[<-Nat.div_add_mod a n,ya1 hp hm,yaF hp hm,o.one,ybO hp hm,one_mul hp hm (yaw hp hm _ _)]
theorem zia{root n few b s r:Nat}{marks:List Nat}(hr:root<p^m)(o:Ord p m t root n)(hm:∀x,x∈marks↔x∈(List.range r).map λk=>(b+k*s)%n)(u:List Nat):CW p m t root n few marks u↔CW p m t root n few (runM b s r) u:=by
 unfold CW runM;refine and_congr_right λ_=>and_congr_right λ_=>⟨λh k hk=>?_,λh k hk=>?_⟩
 ·obtain⟨i,hi,rfl⟩:=List.mem_map.mp hk;rw[<-yft G hr o];exact h _ ((hm _).mpr (List.mem_map.mpr ⟨i,hi,rfl⟩))
 ·obtain⟨i,hi,rfl⟩:=List.mem_map.mp ((hm k).mp hk);rw[yft G hr o];exact h _ (List.mem_map.mpr ⟨i,hi,rfl⟩)
end
def atN(σ:St)(i:Nat):Nat:=match σ[i]? with
 |some (some (.int n))=>n.toNat
 |_=>0
section
variable {P:Program} {w:World} {mg:Str->Option Value} {base:Heap} {f:Addr} {fd:FuncData}
inductive ydm (vs:List V) (H:Hp) (Q:VK) (E:XK):Prop
 |mk (pu g:Addr) (c1:vs=[.ref pu]) (c2:Pu H pu g) (c3:∀(r tb fa pa la wh mk:Addr) (p m t b root n b1 s j c:Nat) (marks:List Nat) H',H' r=some (.tup [.ref tb,.ref wh])->Tab H' tb fa pa la p m t b->WhAt H' wh fa mk m root marks->Whl p m t m root n marks->j*s%n=1%n->marks.length=c->(∀x,x∈marks↔x∈(List.range c).map λk=>(b1+k*s)%n)->(p^m)^(n-c)<=512->Q (.ref r) H'):ydm vs H Q E
theorem yaf:yad ["_law_purse_here","_law_table_here","_law_root","_law_n","_law_first","_law_step","_law_many","_law_marks"] ["_law_purse_here"] (zac yax):=⟨rfl,rfl,rfl,by decide +kernel,rfl,by decide +kernel,by decide +kernel⟩
theorem zgA(B:Bl mg)(h__law_pick:Has P w K mg base 1 "_law_pick" ["_law_purse_here","_law_many"] zcN)(h__law_field:Has P w K mg base 4 "_law_field" ["_law_purse_here"] zdK)(h__law_table:Has P w K mg base 3 "_law_table" ["_law_field_here"] zdz)(h__law_raised:Has P w K mg base 1 "_law_raised" ["_law_one","_law_many"] yc4)
  (h__law_round:Has P w K mg base 2 "_law_round" ["_law_table_here","_law_one"] zbE) (F:Fun K "_law_row_wheel" "_law_row_wheel" yax f fd):FnOk P w K mg base CX0 5 f fd ["_law_purse_here"] ydm:=by
 refine F.ok yaf (λvs H Q E h=>?_) (λcdv A outer s H vs Q E hr h=>?_)
 ·obtain⟨pu,g,rfl,_⟩:=h;rfl
 obtain⟨pu,g,rfl,hP,ret⟩:=h;refine⟨_,((1<|>yaf.nd<|>(h__law_table<$>((h__law_field<$>((pv 0)>=>zab))>=>zab)))<=<(2<|>yaf.nd<|>(yag|||yab|||(h__law_pick<$>((pv 0)>=>(yan|||((pv 1)⊃zaF)|||yab)>=>zab))))<=<(3<|>yaf.nd<|>(h__law_round<$>((pv 1)>=>(pv 2)>=>zab)))<=<((@yaM _ _ _ _ _ ((h__law_pick<$>((pv 0)>=>(pv 3)>=>zab))>=>(yag|||yab|||(h__law_pick<$>((pv 0)>=>(pv 3)>=>zab)))>=>zab))≈((4&&&yaf.nd)∩((5&&&yaf.nd)∩yav)))<=<(6<|>yaf.nd<|>(h__law_pick<$>((pv 0)>=>(yag|||(pv 3)|||yab)>=>zab)))<=<(@yaC _ _ _ _ _ _ PassesOwn.never (yco∪(h__law_raised<$>(((pv 1)⊃zaF)>=>(yan|||(pv 3)|||(pv 6))>=>zab))∪yab) (~~~(6<|>yaf.nd<|>(yag|||(pv 6)|||yab))))<=<(@yaC _ _ _ _ _ _ PassesOwn.never (zhP∪(zfT rfl rfl (B "len" (by decide)) rfl (B "set" (by decide)) (zeM (tg:=["_law_k"]) (cp:=["_law_n","_law_step"]) (ci:=[3,5]) (id (α:=CSc ["_law_purse_here","_law_table_here","_law_root","_law_n","_law_first","_law_step","_law_many","_law_marks"] (zac yax) ["_law_k"] ["_law_n","_law_step"] [3,5] _) ⟨by rfl,by decide +kernel,by decide +kernel,by decide +kernel,by decide +kernel,by rfl,by decide +kernel⟩) rfl (ydS rfl (B "range" (by decide)) (ybm (pv 3) zab)) (λcl C fp s H=>(ycV (i:=0) (by show List.Nodup (["_law_k","_law_n","_law_step"]:List Str);decide +kernel) rfl (Or.inl rfl))) (λ_ _ _ _ _=>zau) (λ_ _ _ _ _=>(yhU zax (yhU zav (pv 0) (pv 2)) (pv 1)))))∪(pv 3)) (~~~(5<|>yaf.nd<|>(yag|||(zax|||(pv 5)|||(pv 3))|||yab))))<=<(7<|>yaf.nd<|>(yak<*("tuple",yai,((yey>>>("sorted",ybN,((["_law_k"]⊆(["_law_n","_law_first","_law_step"],[3,4,5],["_law_purse_here","_law_table_here","_law_root","_law_n","_law_first","_law_step","_law_many","_law_marks"],yax,(↑((pv 6)>=>zab)),(0⊇["_law_k","_law_n","_law_first","_law_step"]),zau,(zax|||(yag|||(pv 2)|||(zav|||(pv 0)|||(pv 3)))|||(pv 1))))>=>zab)))>=>zab))))<=<(~~~((@yaM _ _ _ _ _ ((pv 1)>=>(@yaM _ _ _ _ _ (((pv 1)⊃zaF)>=>((pv 1)⊃zaF)>=>(pv 2)>=>(pv 7)>=>zab))>=>zab))⁻¹))),?_⟩
 try dsimp only[cxOf]
 refine⟨_,rfl,pu,g,rfl,hP,λfa p m t H1 nf1 nf2 nf ef G hP1 sx1=>?_⟩;refine⟨fa,p,m,t,rfl,ef,G,λtb pa la b H2 ntb npa nla T2 s2=>?_⟩;have hP2:=hP1.same s2;have ap:yis pu g tb fa pa la:=⟨(hP1.lt ntb).1,(hP1.lt ntb).2,nf1,nf2,(hP1.lt npa).1,(hP1.lt npa).2,(hP1.lt nla).1,(hP1.lt nla).2⟩
 have hp:=G.hp;have hm:=G.hm;have hQ:=G.hq;have hQ2:=zap hp hm;have sx2:=sx1.trans (Same.x s2);dsimp only[zaj];refine⟨_,rfl,_,rfl,tb,_,rfl,T2.get ybK,_,_,rfl,rfl,?_⟩;refine⟨pu,g,p^m-1,by rw[show((p^m:Nat):Int)-1=((p^m-1:Nat):Int) by lia];rfl,hP2,by lia,by lia,λk0 H3 hk0 hP3 sx3=>?_⟩;refine⟨_,_,rfl,rfl,?_⟩;dsimp only[zaj];rw[show V.int (1+(k0:Int))=Vn (1+k0) from zbX (by lia)];have T3:=T2.x ap sx3;refine⟨_,rfl,_,rfl,tb,fa,pa,la,p,m,t,b,1+k0,rfl,T3,by lia,by lia,λn o hn=>?_⟩;have n0:=o.pos;dsimp only[zaj];refine⟨_,rfl,_,rfl,pu,g,n,rfl,hP3,by lia,by lia,λb1 H4 hb1 hP4 sx4=>?_⟩;refine⟨_,rfl,_,rfl,pu,g,n,rfl,hP4,by lia,by lia,λk1 H5 hk1 hP5 sx5=>?_⟩;refine⟨_,_,rfl,rfl,?_⟩;rw[show V.int (1+(k1:Int))=Vn (1+k1) from zbX (by lia)];refine⟨szl 2,λtp htp=>?_⟩;have s5:=yaa htp (.tup [Vn b1,Vn (1+k1)]);refine⟨tp,_,rfl,SqT.of zaa,rfl,_,_,rfl,_,_,rfl,rfl,?_⟩
 replace hP5:=hP5.same s5
 replace sx5:=sx5.trans (Same.x s5)
 generalize upd H5 tp (.tup [Vn b1,Vn (1+k1)])=H5 at hP5 sx5 ⊢;dsimp only[zaj];refine⟨_,rfl,_,rfl,_,_,rfl,rfl,pu,g,n+1,rfl,hP5,by lia,by lia,λk2 H6 hk2 hP6 sx6=>?_⟩;have T6:=((T3.x ap sx4).x ap sx5).x ap sx6;have sx6':=(((sx2.trans sx3).trans sx4).trans sx5).trans sx6;dsimp only[zaj]
 let I1:St->Hp->Prop:=λσ H'=>∃c:Nat,c<=n/\H'=H6/\σ=[some (.ref pu),some (.ref tb),some (Vn (1+k0)),some (Vn n),some (Vn b1),some (Vn (1+k1)),some (Vn c),none]
 refine yaD I1 (λσ _=>n-atN σ 6) ⟨k2,by lia,rfl,rfl⟩ ?_;rintro σ H' ⟨c,hc,rfl,rfl⟩;refine⟨_,rfl,tb,_,rfl,T6.get ybK,_,rfl,_,rfl,_,_,rfl,rfl,p^m,n-c,?_,by lia,by lia,_,_,rfl,rfl,_,rfl,?_⟩
 ·show [Vn (p^m),V.int ((n:Int)-(c:Int))]=_;rw[show(n:Int)-(c:Int)=((n-c:Nat):Int) by lia]
 refine ite2 (λh=>?_) (λh=>?_)
 ·have h1:512<(p^m)^(n-c):=Int.ofNat_lt.mp (of_decide_eq_true h);have hcn:c<n:=Nat.lt_of_le_of_ne hc λe=>by subst e;rw[Nat.sub_self,Nat.pow_zero]at h1;exact absurd h1 (by decide)
  refine⟨λσ' H''=>H''=H'/\σ'=[some (.ref pu),some (.ref tb),some (Vn (1+k0)),some (Vn n),some (Vn b1),some (Vn (1+k1)),some (Vn (c+1)),none],?_,?_⟩
  ·rintro σ' H'' ⟨rfl,rfl⟩;exact⟨_,show n-(c+1)<n-c by lia,rfl,c+1,hcn,rfl,rfl⟩
  ·exact⟨_,rfl,_,_,rfl,rfl,rfl,rfl⟩
 have hle:(p^m)^(n-c)<=512:=Nat.le_of_not_lt λh1=>h (decide_eq_true (Int.ofNat_lt.mpr h1))
 clear h
 let I2:St->Hp->Prop:=λσ H''=>∃s:Nat,An4 (1<=s) (s<=n) (Same H' H'') (σ=[some (.ref pu),some (.ref tb),some (Vn (1+k0)),some (Vn n),some (Vn b1),some (Vn s),some (Vn c),none])
 refine yaD I2 (λσ _=>if atN σ 5=1 then 0 else n+2-atN σ 5) ⟨1+k1,by lia,by lia,Same.refl _,rfl⟩ ?_;rintro σ H7 ⟨s',hs1,hs2,s7,rfl⟩;refine⟨_,rfl,(n:Int),rfl,by lia,by lia,?_⟩;refine zan za0 (λk acc H''=>H''=H7/\acc=((List.range k).map λj=>j*s'%n).map Vn) ⟨rfl,rfl⟩ (λ_ _ _ _ _=>trivial) ?_ ?_ ?_
 ·rintro k acc H'' hk ⟨_,rfl⟩;rw[List.length_map,List.length_map,List.length_range];exact zai (by lia)
 ·rintro k acc x H'' H8 hk ⟨rfl,rfl⟩ ⟨rfl,rfl⟩;have hk:k<n:=by lia
  refine⟨_,rfl,_,rfl,_,_,rfl,rfl,.inl ⟨by lia,by lia⟩,_,rfl,_,_,rfl,rfl,by show(0:Int)<n;lia,rfl,?_⟩;rw[List.range_succ,List.map_append,List.map_append,Int.zero_add];rfl
 rw[Int.toNat_natCast];rintro acc H8 ⟨rfl,rfl⟩ D hD;have s8:=s7.trans (yaa hD (.lst (((List.range n).map λj=>j*s'%n).map Vn)));have e8:upd H8 D (.lst (((List.range n).map λj=>j*s'%n).map Vn)) D=some (.lst ((((List.range n).map λj=>j*s'%n).map λx:Nat=>(x:Int)).map V.int)):=by rw[zaa,mapI]
 generalize upd H8 D (.lst (((List.range n).map λj=>j*s'%n).map Vn))=H9 at s8 e8 ⊢;refine⟨D,_,rfl,SqL.of e8,by rw[List.length_map,List.length_map,List.length_range];lia,λks nd hk=>?_⟩;refine⟨_,rfl,_,_,rfl,rfl,_,rfl,?_⟩;refine ite2 (λh=>?_) (λh=>?_)
 ·have h1:ks.length<n:=Int.ofNat_lt.mp (of_decide_eq_true h);have hs3:s'≠1:=by
   rintro rfl;have h2:=zdQ (s:=(List.range n).map λx:Nat=>(x:Int)) (l:=ks) (List.pairwise_map.mpr (List.nodup_range.imp λhne e=>hne (Int.ofNat.inj e))) λk hk'=>by
    obtain⟨x,hx,rfl⟩:=List.mem_map.mp hk';exact(hk _).mpr (List.mem_map.mpr ⟨x,List.mem_map.mpr ⟨x,hx,by rw[Nat.mul_one,Nat.mod_eq_of_lt (List.mem_range.mp hx)]⟩,rfl⟩)
   rw[List.length_map,List.length_range]at h2
   lia
  refine⟨λσ' H''=>Same H' H''/\σ'=[some (.ref pu),some (.ref tb),some (Vn (1+k0)),some (Vn n),some (Vn b1),some (Vn (s'%n+1)),some (Vn c),none],?_,?_⟩
  ·rintro σ' H'' ⟨sx,rfl⟩;have:=Nat.mod_lt s' (show n>0 by lia);refine⟨_,?_,rfl,s'%n+1,by lia,by lia,sx,rfl⟩;show(if s'%n+1=1 then 0 else n+2-(s'%n+1))<if s'=1 then 0 else n+2-s'
   rw[if_neg hs3];rcases Nat.lt_or_ge s' n with h3|h3
   ·rw[Nat.mod_eq_of_lt h3];split <;> lia
   ·rw[show s'=n by lia,Nat.mod_self,if_pos (by lia)];lia
  ·exact⟨_,rfl,_,rfl,_,_,rfl,rfl,by show(0:Int)<n;lia,_,_,rfl,rfl,s8,rfl⟩
 obtain⟨j,hj⟩:=ygK n0 nd (λk h=>(hk k).mp h) (Nat.le_of_not_lt λh1=>h (decide_eq_true (Int.ofNat_lt.mpr h1)));clear h hk nd;have hcn:c<=n:=hc;refine⟨_,rfl,(c:Int),rfl,by lia,by lia,?_⟩;refine zan za0 (λk acc H''=>H''=H9/\acc=((List.range k).map λi=>(b1+i*s')%n).map Vn) ⟨rfl,rfl⟩ (λ_ _ _ _ _=>trivial) ?_ ?_ ?_
 ·rintro k acc H'' hk ⟨_,rfl⟩;rw[List.length_map,List.length_map,List.length_range];exact zai (by lia)
 ·rintro k acc x H'' HA hk ⟨rfl,rfl⟩ ⟨rfl,rfl⟩;have hk:k<n:=by lia
  refine⟨_,rfl,_,rfl,_,rfl,_,_,rfl,rfl,.inl ⟨by lia,by lia⟩,_,_,rfl,rfl,_,rfl,_,_,rfl,rfl,by show(0:Int)<n;lia,rfl,?_⟩;rw[List.range_succ,List.map_append,List.map_append,Int.zero_add];rfl
 rw[Int.toNat_natCast];obtain⟨xs,hxs⟩:∃xs,xs=(List.range c).map λi=>(b1+i*s')%n:=⟨_,rfl⟩
 have lx:xs.length=c:=by rw[hxs,List.length_map,List.length_range]
 have ndx:xs.Nodup:=hxs ▸ zhH hj hcn;rw[<-hxs];rintro acc HA ⟨rfl,rfl⟩ D2 hD2;have sA:=s8.trans (yaa hD2 (.lst (xs.map Vn)));refine⟨D2,xs.map (λx:Nat=>(x:Int)),rfl,SqL.of (by rw[mapI];exact zaa),by rw[List.length_map];lia,λl2 ns' hl2 perm asc=>?_⟩;obtain⟨ms,ems,hasc,hmm⟩:=yfq perm asc ndx;have hlen:ms.length=c:=by
  have:=congrArg List.length ems;rw[List.length_map,List.length_map,perm.length_eq,List.length_map,lx]at this;exact this.symm
 rw[ems];have sB:=sA.trans (yaa hl2 (.lst (ms.map Vn)));refine⟨l2,_,rfl,.inl ⟨SqL.of zaa,λmk hmk=>?_⟩⟩;have sC:=sB.trans (yaa hmk (.tup (ms.map Vn)));have ek:upd (upd (upd HA D2 (.lst (xs.map Vn))) l2 (.lst (ms.map Vn))) mk (.tup (ms.map Vn)) mk=some (.tup (ms.map Vn)):=zaa;generalize upd (upd (upd HA D2 (.lst (xs.map Vn))) l2 (.lst (ms.map Vn))) mk (.tup (ms.map Vn))=HC at sC ek ⊢;dsimp only[zaj];have TC:=T6.same sC;refine⟨_,rfl,_,rfl,tb,_,rfl,TC.get zf6,_,rfl,tb,_,rfl,TC.get yiE,_,rfl,_,rfl,szl 4,λwh hwh=>⟨szl 2,λr hr=>?_⟩⟩;have sD:=yaa hwh (.tup [.ref fa,Vn m,Vn (1+k0),.ref mk]);have sE:=yaa hr (.tup [.ref tb,.ref wh]);have hlt:∀x∈ms,x<n:=λx hx=>by
  rw[hmm,hxs]at hx;obtain⟨i,_,rfl⟩:=List.mem_map.mp hx;exact Nat.mod_lt _ n0
 refine ret r tb fa pa la wh mk p m t b (1+k0) n b1 s' j c ms _ zaa ((TC.same sD).same sE) ⟨sE _ _ zaa,sE _ _ (sD _ _ ek)⟩ ⟨hm,Nat.mod_self m,by lia,by lia,o,hn,hasc,hlt,λx hx=>?_⟩ hj hlen (λx=>by rw[hmm,hxs]) hle;have h1:=Ord.round G (by lia) (by lia) o (Nat.mod_self m) hm;rw[Nat.div_self (by lia),Nat.pow_one]at h1;rw[Nat.mul_mod,h1,<-Nat.mul_mod,Nat.mul_one,Nat.mod_eq_of_lt (hlt x hx)];exact hx
end
end My
end
section
namespace My
open PySem L2 Dg
theorem yiR:∀u:List Nat,wg u=wt u:=λu=>by
 have h:u.count 0+(u.filter (·≠0)).length=u.length:=by
  induction u with
  |nil=>rfl
  |cons x u ih=>
   rw[List.count_cons,List.filter_cons];by_cases c:x=0
   ·subst c;simp;lia
   ·simp[c];simp at ih;lia
 unfold wg wt;lia
section
variable {p m t:Nat} (G:Good p m t)
include G
theorem yhF{root n b1 s j c:Nat}{marks:List Nat}(W:Whl p m t m root n marks)(hj:j*s%n=1%n)(hc:marks.length=c)(hm:∀x,x∈marks↔x∈(List.range c).map λk=>(b1+k*s)%n):(hst n (lwL p m t root n marks m (n-marks.length))).map (λx:Nat=>(x:Int))=cwL (p^m) n c:=by
 have hl:=zfL W.asc W.lt;unfold hst cwL;rw[List.map_map];refine List.map_congr_left λw hw=>?_
 have hw:=List.mem_range.mp hw;have h:=ziw (Q:=p^m) (n:=n) (r:=c) (Ws:=lwL p m t root n marks m (n-marks.length)) (λu hu=>((zh1 G W hl u).mp hu).1) (yhE G (root:=root) (b:=b1) (s:=s) W.r0 W.rq (zgz G W.rq W.ord hj) (by lia) (zgL G _ (Nat.le_refl _)) (λu=>(zh1 G W hl u).trans (zia G W.rq W.ord hm u)) (by rw[zhC G W,hc])) w (by lia);rw[<-h];show((List.countP _ _:Nat):Int)=_;rw[List.countP_eq_length_filter];congr 2;refine List.filter_congr λu _=>?_
 rw[yiR];rfl
end
section
variable {P:Program} {w:World} {mg:Str->Option Value} {base:Heap} {f:Addr} {fd:FuncData}
theorem Tups.get{ls:List (List Nat)}{i:Nat}(h:Tups H ds ls)(hi:i<ls.length):∃d,ds[i]?=some d/\H d=some (.tup ((ls.getD i []).map Vn)):=by
 have hd:i<ds.length:=by rw[h.1];exact hi
 obtain⟨rs,e,hr⟩:=h.2 i ds[i] (List.getElem?_eq_getElem hd);refine⟨ds[i],List.getElem?_eq_getElem hd,?_⟩;rw[List.getD_eq_getElem?_getD,e];exact hr
theorem ya5:yad ["_law_script","_law_purse_here","_law_rows","_law_turn","_law_way","_law_n","_law_q","_law_many","_law_some","_law_table_here","_law_wheel","_law_due","_law_word","_law_told"] ["_law_script"] (zac zdX):=⟨rfl,rfl,rfl,by decide +kernel,rfl,by decide +kernel,by decide +kernel⟩
theorem yil(B:Bl mg)(h__law_purse:Has P w K mg base 1 "_law_purse" ["_law_script"] (zdN K))(h__law_pick:Has P w K mg base 1 "_law_pick" ["_law_purse_here","_law_many"] zcN)(h__law_choices:Has P w K mg base 1 "_law_choices" ["_law_most"] ybU)(h__law_right:Has P w K mg base 4 "_law_right" ["_law_q","_law_n","_law_many","_law_rows"] zcZ)(h__law_row_wheel:Has P w K mg base 5 "_law_row_wheel" ["_law_purse_here"] ydm)(h__law_round:Has P w K mg base 2 "_law_round" ["_law_table_here","_law_one"] zbE)(h__law_words:Has P w K mg base 4 "_law_words" ["_law_table_here","_law_wheel"] yc0)(h_wide_counts:Has P w K mg base 3 "wide_counts" ["q","n","many"] zbJ)(h_counts:Has P w K mg base 10 "counts" ["wheel"] (ycB K))(F:Fun K "law" "law" zdX f fd):FnOk P w K mg base CX0 11 f fd ["_law_script"] (zdf K):=by
 refine F.ok ya5 (λvs H Q E h=>?_) (λcdv A outer s H vs Q E hr h=>?_)
 ·obtain⟨a,ns,rfl,_⟩:=h;rfl
 obtain⟨a,ns,rfl,ha,ret⟩:=h;refine⟨_,((@ycy _ _ 1 2 _ _ _ _ _ _ _ _ _ _ _ rfl ya5.nd rfl rfl (by decide) rfl rfl ((h__law_purse<$>((pv 0)>=>zab))>=>(h__law_choices<$>(yab>=>zab))>=>zab) rfl ⋯)<=<((↑(yab>=>zab))<&>((3&&&ya5.nd),((4<|>ya5.nd<|>(h__law_pick<$>((pv 1)>=>yab>=>zab)))<=<(5<|>ya5.nd<|>(yag|||yab|||(h__law_pick<$>((pv 1)>=>(yah<<<(@zaq _ _ _ _ (yab>=>yab>=>yab>=>zab))<<<(pv 4))>=>zab))))<=<(@ycy _ _ 6 7 _ _ _ _ _ _ _ _ _ _ _ rfl ya5.nd rfl rfl (by decide) rfl rfl ((yag|||yab|||(h__law_pick<$>((pv 1)>=>(yah<<<(@zaq _ _ _ _ (yab>=>yab>=>(zdU|||yab|||yab)>=>zab))<<<(pv 4))>=>zab)))>=>(h__law_pick<$>((pv 1)>=>(yag|||(pv 5)|||yab)>=>zab))>=>zab) rfl ⋯)<=<(~~~((@yb0 _ _ _ _ (@yaM _ _ _ _ _ (yab>=>(pv 5)>=>(pv 7)>=>zab)))<&>((8&&&ya5.nd),(~~~((@yeO _ _ _ _ (@zda _ _ _ (h__law_right<$>((pv 6)>=>(pv 5)>=>(pv 8)>=>(pv 2)>=>zab)) (by intro _;rfl)))*>((~~~(yef⁻¹)),yao)))))))))<=<((h__law_row_wheel<$>((pv 1)>=>zab))≈((9&&&ya5.nd)∩((10&&&ya5.nd)∩yav)))<=<(5<|>ya5.nd<|>(h__law_round<$>((pv 9)>=>(zam<<<(pv 10)<<<yab)>=>zab)))<=<(11<|>ya5.nd<|>(zcn|||(@zaq _ _ _ _ (yab>=>zab))|||(yag|||(pv 5)|||yab)))<=<((@zaO _ _ _ _ (h__law_words<$>((pv 9)>=>(pv 10)>=>zab)))<&>((12&&&ya5.nd),((7<|>ya5.nd<|>(yae>>>("len",PySem.boot_len,((["_law_one"]⊆([],[],["_law_script","_law_purse_here","_law_rows","_law_turn","_law_way","_law_n","_law_q","_law_many","_law_some","_law_table_here","_law_wheel","_law_due","_law_word","_law_told"],zdX,(@yb0 _ _ _ _ (pv 12)),(0⊇["_law_one"]),(@ycr _ _ _ (zd2∪(pv 0)∪yab)),(pv 0)))>=>zab))))<=<(~~~(@zbO _ _ _ _ _ _ (yag|||(yah<<<(pv 11)<<<(pv 7))|||yab) (@zca _ _ _ _ _ _ _ (pv 11) (pv 7) zaP (by intro _;rfl)) ⋯ ⋯ ⋯)))))<=<(13<|>ya5.nd<|>(h_wide_counts<$>(((pv 9)⊃zaF)>=>(pv 5)>=>(yae>>>("len",PySem.boot_len,((zam<<<(pv 10)<<<yab)>=>zab)))>=>zab)))<=<(~~~((@yg9 _ _ _ _ _ _ _ (@zcC _ _ _ _ _ _ _ _ (ze1 hr.units0) (pv 13) (yak<*("tuple",yai,((pv 11)>=>zab))) (ydi _)) (@yg5 _ _ _ _ _ (@zcC _ _ _ _ _ _ _ _ (ze1 hr.units0) (h_counts<$>((pv 10)>=>zab)) (pv 13) (ydi _))))⁻¹))),?_⟩
 try dsimp only[cxOf]
 refine⟨_,rfl,a,ns,rfl,ha,λpu g H1 n1 n2 s1 hP1=>?_⟩;refine⟨63,rfl,by lia,λrl ds H2 s2 nrl er ld hb hf=>?_⟩;refine⟨_,_,rfl,?_⟩;have hP2:=hP1.same s2;have nrl':=hP1.lt nrl;have rows:∀H',yar pu g H2 H'->H' rl=some (.lst (ds.map V.ref))/\BnR H' ds:=λH' s=>⟨s _ _ nrl'.1 nrl'.2 er,λi d e=>by
  have nd:=hP1.lt (hf d (List.mem_of_getElem? e));exact s _ _ nd.1 nd.2 (hb i d e)⟩
 dsimp only[zaj];refine⟨6,rfl,by decide,by decide,?_⟩
 let I1:Nat->St->Hp->Prop:=λi σ H'=>Pu H' pu g/\yar pu g H2 H'/\∃s3 s4 s5 s6 s7 s8,σ=[some (.ref a),some (.ref pu),some (.ref rl),s3,s4,s5,s6,s7,s8,none,none,none,none,none]
 refine zay (lo:=0) (n:=6) I1 ⟨hP2,yar.refl,_,_,_,_,_,_,rfl⟩ ?_ ?_
 ·rintro i σ H3 hi ⟨hP3,sx3,s3,s4,s5,s6,s7,s8,rfl⟩;dsimp only[zaj];refine⟨_,rfl,pu,g,3,rfl,hP3,by lia,by lia,λway H4 hway hP4 sx4=>?_⟩;dsimp only[zaj];refine⟨_,rfl,szl 3,λl1 hl1=>?_⟩;have t1:=yaa hl1 (.lst [V.int 12,V.int 63,V.int 63]);obtain⟨v,v0,v63,ev⟩:∃v:Nat,0<v/\v<=63/\atI [V.int 12,V.int 63,V.int 63] (way:Int)=some (Vn v):=by
   rcases way with _|_|_|way
   ·exact⟨12,by decide,by decide,rfl⟩
   ·exact⟨63,by decide,by decide,rfl⟩
   ·exact⟨63,by decide,by decide,rfl⟩
   ·lia
  refine⟨_,rfl,l1,_,_,Vn v,rfl,rfl,SqL.of zaa,ev,?_⟩;have hP4':=hP4.same t1;generalize upd H4 l1 (.lst [V.int 12,V.int 63,V.int 63])=H4' at t1 hP4' ⊢;refine⟨pu,g,v,rfl,hP4',by lia,by lia,λk1 H5 hk1 hP5 sx5=>?_⟩;refine⟨_,_,rfl,rfl,?_⟩;rw[show V.int (1+(k1:Int))=Vn (1+k1) from zbX (by lia)];dsimp only[zaj];refine⟨_,rfl,_,_,rfl,rfl,⟨by decide,by decide,by decide⟩,szl 3,λl2 hl2=>?_⟩;have t2:=yaa hl2 (.lst [V.int 69,V.int 69,V.int (10^Int.toNat 12)]);obtain⟨u,u0,u63,eu⟩:∃u:Nat,0<u/\u<=10^12/\atI [V.int 69,V.int 69,V.int (10^Int.toNat 12)] (way:Int)=some (Vn u):=by
   rcases way with _|_|_|way
   ·exact⟨69,by decide,by decide,rfl⟩
   ·exact⟨69,by decide,by decide,rfl⟩
   ·exact⟨10^12,by decide,by decide,rfl⟩
   ·lia
  refine⟨_,rfl,l2,_,_,Vn u,rfl,rfl,SqL.of zaa,eu,?_⟩;have hP5':=hP5.same t2;generalize upd H5 l2 (.lst [V.int 69,V.int 69,V.int (10^Int.toNat 12)])=H5' at t2 hP5' ⊢;refine⟨pu,g,u,rfl,hP5',by lia,by lia,λk2 H6 hk2 hP6 sx6=>?_⟩;refine⟨_,_,rfl,rfl,?_⟩;rw[show V.int (2+(k2:Int))=Vn (2+k2) from zbX (by lia)];refine⟨_,rfl,_,rfl,_,_,rfl,rfl,pu,g,1+k1+1,rfl,hP6,by lia,by lia,λk3 H7 hk3 hP7 sx7=>?_⟩;refine⟨_,_,rfl,?_⟩;have sx7':=(((((sx3.trans sx4).trans (Same.x t1)).trans sx5).trans (Same.x t2)).trans sx6).trans sx7;dsimp only[zaj];refine⟨_,rfl,_,rfl,szl 3,λt3 ht3=>?_⟩;have u3:=yaa ht3 (.tup [V.int 0,Vn (1+k1),Vn k3]);have et3:upd H7 t3 (.tup [V.int 0,Vn (1+k1),Vn k3]) t3=some (.tup [V.int 0,Vn (1+k1),Vn k3]):=zaa;have hP8:=hP7.same u3;have sx8:=sx7'.trans (Same.x u3);generalize upd H7 t3 (.tup [V.int 0,Vn (1+k1),Vn k3])=H8 at et3 hP8 sx8 ⊢;refine⟨t3,rfl,⟨_,SqT.of et3⟩,?_⟩
  let I2:Nat->St->Hp->Prop:=λ_ σ H'=>Same H8 H'/\∃s8,σ=[some (.ref a),some (.ref pu),some (.ref rl),some (.int (0+(i:Int))),some (Vn way),some (Vn (1+k1)),some (Vn (2+k2)),some (Vn k3),s8,none,none,none,none,none]
  refine yaG (zaW (xs:=[V.int 0,Vn (1+k1),Vn k3])) I2 ⟨Same.refl _,_,rfl⟩ (λ_ _ _ _ h=>SqT.of (h.1 _ _ et3)) ?_ ?_
  ·rintro e x σ H9 H9' he ⟨s9,s8,rfl⟩ ⟨rfl,ex⟩;obtain⟨c,hc,rfl⟩:∃c:Nat,c<=1+k1/\x=Vn c:=by
    rcases e with _|_|_|e
    ·cases ex;exact⟨0,by lia,rfl⟩
    ·cases ex;exact⟨1+k1,by lia,rfl⟩
    ·cases ex;exact⟨k3,by lia,rfl⟩
    ·cases ex
   obtain⟨er9,hb9⟩:=rows _ (sx8.trans (Same.x s9));dsimp only[zaj];refine⟨_,rfl,_,rfl,_,rfl,_,rfl,2+k2,1+k1,c,rl,ds,rfl,by lia,by lia,hc,er9,ld,hb9,λH10 s10=>⟨true,rfl,?_⟩⟩;refine ite2 (λc=>absurd c (by decide)) (λ_=>?_);exact⟨s9.trans s10,_,rfl⟩
  ·rintro σ H9 ⟨s9,s8,rfl⟩;exact⟨hP8.same s9,sx8.trans (Same.x s9),_,_,_,_,_,_,rfl⟩
 ·rintro σ H3 ⟨hP3,sx3,s3,s4,s5,s6,s7,s8,rfl⟩;refine⟨_,rfl,pu,g,rfl,hP3,λr tb fa pa la wh mk p m t b root n b1 s' j c marks H4 er T hW W hj hlen hmm hle=>?_⟩;refine⟨r,_,rfl,SqT.of er,rfl,_,_,rfl,_,_,rfl,rfl,?_⟩;have G:=T.good;have hp:=G.hp;have hm:=G.hm;have hQ:=G.hq;have hnq:=W.nq;have hn0:=W.ord.pos;have hml:=zfL W.asc W.lt;have hm6:=m_le hp hQ;rw[<-hlen]at hle;have hle2:(p^m)^(n-marks.length)<=4096:=Nat.le_trans hle (by decide);dsimp only[zaj];refine⟨_,rfl,_,rfl,wh,_,_,Vn root,rfl,rfl,SqT.of hW.w,rfl,tb,fa,pa,la,p,m,t,b,root,rfl,T,W.r0,W.rq,λn' o' _=>?_⟩;cases o'.uniq W.ord;dsimp only[zaj];refine⟨szl 1,λz0 hz0=>?_⟩;have y0:=yaa hz0 (.lst [V.int 0]);refine⟨_,rfl,_,_,rfl,rfl,z0,_,_,rfl,rfl,zaa,by lia,by lia,by rw[show((n:Int)+1).toNat=n+1 by lia];exact szl _ (by simp;lia),λdl hdl=>?_⟩;rw[show((n:Int)+1).toNat=n+1 by lia,ybF,<-yew];have y1:=y0.trans (yaa hdl (.lst ((hst n []).map Vn)));have dlH:H4 dl=none:=y0.free hdl;have edl:upd (upd H4 z0 (.lst [V.int 0])) dl (.lst ((hst n []).map Vn)) dl=some (.lst ((hst n []).map Vn)):=zaa;dsimp only[zaj];change tSeq _ _ _ _ (upd (upd H4 z0 (.lst [V.int 0])) dl (.lst ((hst n []).map Vn)));generalize upd (upd H4 z0 (.lst [V.int 0])) dl (.lst ((hst n []).map Vn))=H6 at y1 edl ⊢;obtain⟨lw,elw⟩:∃lw,lw=lwL p m t root n marks m (n-marks.length):=⟨_,rfl⟩
  refine⟨_,rfl,_,rfl,tb,fa,pa,la,wh,mk,p,m,t,b,m,root,n,marks,rfl,T.same y1,hW.same y1,hm,by lia,Nat.mod_self m,W.r0,W.rq,W.ord,by lia,hml,hle2,λr2 ds2 H7 y7 er2 hT=>?_⟩;rw[<-elw]at hT;have hok:=ybZ (root:=root) (marks:=marks) (few:=m) G (n-marks.length) (Nat.le_refl _);rw[<-elw]at hok;refine⟨r2,rfl,⟨_,SqL.of er2⟩,?_⟩;have ndl:r2≠dl:=λe=>by
   have h1:=y7 _ _ edl;rw[<-e,er2]at h1;have h2:=congrArg (λx=>match x with|some (HO.lst (V.int _::_))=>true|_=>false) h1;rw[yew]at h2;cases ds2 with
   |nil=>exact absurd h2 (by simp[List.replicate_succ])
   |cons d ds=>exact absurd h2 (by simp[List.replicate_succ])
  let I3:Nat->St->Hp->Prop:=λi σ H'=>An4 (Same H4 H') (H' r2=some (.lst (ds2.map V.ref))) (Tups H' ds2 lw) (H' dl=some (.lst ((hst n (lw.take i)).map Vn))/\∃v7 v12,σ=[some (.ref a),some (.ref pu),some (.ref rl),s3,s4,some (Vn n),s6,v7,s8,some (.ref tb),some (.ref wh),some (.ref dl),v12,none])
  refine yaG (yaH (xs:=ds2.map V.ref)) I3 ⟨y1.trans y7,er2,hT,y7 _ _ edl,_,_,rfl⟩ (λ_ _ _ _ ⟨_,h,_,_⟩=>SqL.of h) ?_ ?_
  ·rintro i x σ H8 H8' hi ⟨y8,er8,hT8,e8,v7,v12,rfl⟩ ⟨rfl,ez⟩;rw[List.length_map,hT.1]at hi;obtain⟨d,ed,hd⟩:=hT8.get hi;rw[List.getElem?_map,ed]at ez;cases ez;obtain⟨u,eu⟩:∃u,u=lw.getD i []:=⟨_,rfl⟩
   have hu:u∈lw:=by rw[eu];simp[List.getD,hi]
   have hul:=(hok u hu).1;rw[<-eu]at hd;have hwu:wt u<=n:=by have:=ygF u;rw[hul]at this;exact this
   dsimp only[zaj];refine⟨_,rfl,d,rfl,⟨_,SqT.of hd⟩,?_⟩;refine zan (zaW (xs:=u.map Vn)) (λk acc H'=>H'=H8'/\acc=((u.take k).filter (·≠0)).map Vn) ⟨rfl,rfl⟩ (λi acc H' _ h=>h.1 ▸ SqT.of hd) ?_ ?_ ?_
   ·rintro k acc H' hk ⟨_,rfl⟩;have:=ygF (u.take k);rw[List.length_take]at this;rw[List.length_map];exact zai (by unfold wt at this;lia)
   ·rintro k acc z H9 H10 hk ⟨rfl,rfl⟩ ⟨rfl,ez⟩;obtain⟨hk',rfl⟩:=yfH ez;refine⟨_,rfl,rfl,_,rfl,?_⟩;have e:u.take (k+1)=u.take k++[u[k]]:=by rw[List.take_succ_eq_append_getElem hk']
    refine ite2 (λc=>?_) (λc=>?_)
    ·refine⟨_,rfl,rfl,?_⟩;have c':u[k]≠0:=by simpa using c
     rw[e,List.filter_append,List.map_append];simp[c']
    ·refine⟨rfl,?_⟩;have c':u[k]=0:=by simpa using c
     rw[e,List.filter_append];simp[c']
   rintro acc H9 ⟨rfl,rfl⟩ D hD;have y9:=yaa hD (.lst (((u.take (u.map Vn).length).filter (·≠0)).map Vn));refine⟨D,_,rfl,.inl (SqL.of zaa),?_⟩;rw[List.length_map,List.length_map,List.take_length];rw[List.length_map,List.take_length]at y9;dsimp only[zaj];change tAsg _ _ _ _ (upd H9 D (.lst ((u.filter (·≠0)).map Vn)));generalize upd H9 D (.lst ((u.filter (·≠0)).map Vn))=H10 at y9 ⊢;have e10:=y9 _ _ e8;have wl2:wt u<(hst n (lw.take i)).length:=by rw[ycz];lia
   refine⟨_,rfl,_,rfl,dl,_,_,_,rfl,rfl,SqL.of e10,zaz (zar (i:=wt u) wl2),_,_,rfl,rfl,?_⟩;refine⟨_,rfl,_,rfl,dl,_,_,wt u,rfl,rfl,e10,by rw[List.length_map];exact zd9 wl2,?_⟩;refine⟨zaX (y8.trans y9) dlH,by rw[zad ndl];exact y9 _ _ er8,Tups.at (hT8.same y9) e10,?_,_,_,rfl⟩;rw[zaa,ya3 (d:=[]) hi,<-eu,<-zeL hwu,List.map_set];rfl
  ·rw[List.length_map,hT.1];rintro σ H8 ⟨y8,er8,hT8,e8,v7,v12,rfl⟩;rw[List.take_length]at e8;have hWQ:WQ K wh fa mk p m t m root n (n-marks.length) marks H8:=⟨hW.same y8,SqT.of (T.same y8).f,G,W.r0,W.rq,W.ord,by lia,by lia,Nat.mod_self m,hm,by lia⟩
   have eh:hst n (wdL p m t root marks m (n-marks.length) (n-marks.length))=hst n lw:=by rw[elw];exact yeM (yfc G W (by lia))
   have ew:=yhF G W hj hlen hmm;rw[<-elw]at ew;have T8:=T.same y8;have hW8:=hW.same y8;refine⟨_,rfl,tb,_,rfl,T8.get ybK,_,rfl,_,rfl,wh,_,_,.ref mk,rfl,rfl,SqT.of hW8.w,rfl,mk,_,rfl,.inr (SqT.of hW8.k),p^m,n,marks.length,by rw[List.length_map];rfl,by lia,by lia,by lia,λfr H9 y9 nfr e9=>?_⟩;change H9 fr=some (.tup ((cwL (p^m) n marks.length).map V.int)) at e9;rw[hlen,<-ew]at e9;dsimp only[zaj];refine⟨_,rfl,_,rfl,dl,_,rfl,.inl ⟨SqL.of (y9 _ _ e8),λt1 ht1=>?_⟩⟩;have y10:=y9.trans (yaa ht1 (.tup ((hst n lw).map Vn)));refine⟨fr,t1,_,(hst n lw).map (λx:Nat=>(x:Int)),rfl,rfl,SqT.of ((yaa ht1 _) _ _ e9),SqT.of (by rw[mapI];exact zaa),?_⟩;refine⟨true,by simp,?_⟩;rw[if_pos rfl];have e10:=(yaa ht1 (.tup ((hst n lw).map Vn))) _ _ e9;generalize upd H9 t1 (.tup ((hst n lw).map Vn))=H10 at y10 e10 ⊢;refine⟨_,rfl,wh,fa,mk,p,m,t,m,root,n,n-marks.length,marks,rfl,⟨hWQ.1.same y10,Same.tup y10 hWQ.2.1,hWQ.2.2⟩,hle2,λc1 H11 y11 hc1=>?_⟩;rw[eh]at hc1;refine⟨_,rfl,c1,fr,(hst n lw).map (λx:Nat=>(x:Int)),_,rfl,rfl,by rw[mapI];exact hc1,SqT.of (y11 _ _ e10),?_⟩;have:=ret H11
   simpa using this
end
end My
end
section
namespace My
open PySem L2 Dg
theorem ygB{K:PySem.W.Frag}{ns:List Int}(hl:ns.length<=63)(hS:SqL K H a (ns.map V.int)):zdf K [.ref a] H (λv _=>v = .bl true) E:=⟨a,ns,rfl,hS,λ_=>rfl⟩
theorem DI.mk{K:PySem.W.Frag}{x:Str}{st:Stmt}{f:Addr}{oc:Value}{od an:Option Addr}{osl:Array (Option Value)}{kV doc pm cdv ct:Value}(a:PySem.W.nsIn K mainGlobals x=some (some (.ref f)))(l:K.lookup f=some ⟨oc,od,.func (PySem.W.fnOf x x (zbW st) (zbz st) (zac st) .none kV doc pm an cdv ct),osl⟩)(c:PySem.W.codeIn K cdv x=true)(k:PySem.W.keepIn K (.ref f)=true):DI K f x st:=⟨_,zg9 (st:=st) l c k,a⟩
theorem DI.has{P:Program}{w:World}{K:PySem.W.Frag}{mg:Str->Option Value}{base h:Heap}{f:Addr}{x:Str}{st:Stmt}{n:Nat}{ps:List Str}{sp:Sp}(X:K.In h)(G:h.Ns mainGlobals mg)(q:DI K f x st)(ok:∀fd,Fun K x x st f fd->FnOk P w K mg base CX0 n f fd ps sp)(b:∀(kV doc pm:Value) (an:Option Addr) (cdv ct:Value) (us:List Value),us.length=ps.length->bindArgs (PySem.W.fnOf x x (zbW st) (zbz st) (zac st) .none kV doc pm an cdv ct) ⟨us,[]⟩=pure (ps.zip us)):Has P w K mg base n x ps sp:=by
 obtain⟨fd,F,a⟩:=q;exact⟨f,fd,ok fd F,F.binds b,F.2,PySem.W.mg_of X G a⟩
theorem bl0{P:List Value->Prop}(h:P []):∀us:List Value,us.length=0->P us:=by intro us e;cases us with|nil=>exact h|cons a us=>cases e
theorem blS{n:Nat}{P:List Value->Prop}(h:∀a,∀us:List Value,us.length=n->P (a::us)):∀us:List Value,us.length=n+1->P us:=by intro us e;cases us with|nil=>cases e|cons a us=>exact h a us (Nat.succ.inj e)
theorem zbU{P:List Value->Prop}(h:∀a0,P [a0]):∀us:List Value,us.length=1->P us:=blS λa0=>bl0 (h a0)
theorem zbV{P:List Value->Prop}(h:∀a0 a1,P [a0,a1]):∀us:List Value,us.length=2->P us:=blS λa0=>blS λa1=>bl0 (h a0 a1)
theorem zbl{P:List Value->Prop}(h:∀a0 a1 a2,P [a0,a1,a2]):∀us:List Value,us.length=3->P us:=blS λa0=>blS λa1=>blS λa2=>bl0 (h a0 a1 a2)
theorem zis{P:List Value->Prop}(h:∀a0 a1 a2 a3,P [a0,a1,a2,a3]):∀us:List Value,us.length=4->P us:=blS λa0=>blS λa1=>blS λa2=>blS λa3=>bl0 (h a0 a1 a2 a3)
theorem zhG:GG K:=by
 intro l w h mg fa X G hfa f1 q1 f2 q2 f3 q3 f4 q4 f5 q5 f6 q6 f7 q7 f8 q8 f9 q9 f10 q10 f11 q11 f12 q12 f13 q13 f14 q14 f15 q15 f16 q16 f17 q17 f18 q18 f19 q19 f20 q20 f21 q21 f22 q22 f23 q23 f24 q24 f25 q25 f26 q26 f27 q27 f28 q28 f29 q29 f30 q30 f31 q31 f32 q32 f33 q33 f34 q34 f35 q35 f36 q36 f37 q37 f38 q38 f39 q39 f40 q40 f41 q41 f42 q42 f43 q43 f44 q44 f45 q45 f46 q46 f47 q47 f48 q48 f49 q49 f50 q50 f51 q51 f52 q52 tk_MOST_WORDS kk_MOST_WORDS z1 z2 z3 z4 z5 z6 z7 z8 z9 z10 z11 z12 z13 z14 z15 z16 z17 z18 z19 z20 z21;obtain⟨_,⟨⟨oc,od,kV,dc,pm,an,cd,ct,sl,rfl,lL,cL⟩,kL⟩,aL⟩:=q52;have e:=hfa.symm.trans (PySem.W.mg_of X G aL);cases e;have F52:=zg9 (st:=zdX) lL cL kL;have B:Bl mg:=List.forall_mem_cons.mpr ⟨PySem.W.mg_none_of X G z1,List.forall_mem_cons.mpr ⟨PySem.W.mg_none_of X G z2,List.forall_mem_cons.mpr ⟨PySem.W.mg_none_of X G z3,List.forall_mem_cons.mpr ⟨PySem.W.mg_none_of X G z4,List.forall_mem_cons.mpr ⟨PySem.W.mg_none_of X G z5,List.forall_mem_cons.mpr ⟨PySem.W.mg_none_of X G z6,List.forall_mem_cons.mpr ⟨PySem.W.mg_none_of X G z7,List.forall_mem_cons.mpr ⟨PySem.W.mg_none_of X G z8,List.forall_mem_cons.mpr ⟨PySem.W.mg_none_of X G z9,List.forall_mem_cons.mpr ⟨PySem.W.mg_none_of X G z10,List.forall_mem_cons.mpr ⟨PySem.W.mg_none_of X G z11,List.forall_mem_cons.mpr ⟨PySem.W.mg_none_of X G z12,List.forall_mem_cons.mpr ⟨PySem.W.mg_none_of X G z13,List.forall_mem_cons.mpr ⟨PySem.W.mg_none_of X G z14,List.forall_mem_cons.mpr ⟨PySem.W.mg_none_of X G z15,List.forall_mem_cons.mpr ⟨PySem.W.mg_none_of X G z16,List.forall_mem_cons.mpr ⟨PySem.W.mg_none_of X G z17,List.forall_mem_cons.mpr ⟨PySem.W.mg_none_of X G z18,List.forall_mem_cons.mpr ⟨PySem.W.mg_none_of X G z19,List.forall_mem_cons.mpr ⟨PySem.W.mg_none_of X G z20,List.forall_mem_cons.mpr ⟨PySem.W.mg_none_of X G z21,(λ_ h=>nomatch h)⟩⟩⟩⟩⟩⟩⟩⟩⟩⟩⟩⟩⟩⟩⟩⟩⟩⟩⟩⟩⟩;have m_MOST_WORDS:=PySem.W.mg_of X G kk_MOST_WORDS;refine⟨PySem.W.fnOf "law" "law" (zbW zdX) (zbz zdX) (zac zdX) .none kV dc pm an cd ct,λs v=>.of_eq rfl,λbase _ _=>?_⟩;have M:=λ{f x st n ps sp}=>@DI.has l.prog w K mg base h f x st n ps sp X G
 have h_number_power:=M q1 (λ_ F=>yh3 B  F) (λ_ _ _ _ _ _=>zbV λ_ _=>rfl);have h_choices:=M q2 (λ_ F=>yfi B  F) (λ_ _ _ _ _ _=>zbV λ_ _=>rfl);have h_many_things:=M q3 (λ_ F=>yhT B (npL h_number_power) F) (λ_ _ _ _ _ _=>zbU λ_=>rfl);have h_plus:=M q4 (λ_ F=>yhf B  F) (λ_ _ _ _ _ _=>zbl λ_ _ _=>rfl);have h_digit_times:=M q5 (λ_ F=>yc7 B  F) (λ_ _ _ _ _ _=>zbl λ_ _ _=>rfl);have h_minus:=M q6 (λ_ F=>zgx B h_plus h_digit_times F) (λ_ _ _ _ _ _=>zbl λ_ _ _=>rfl);have h_lifted:=M q7 (λ_ F=>zfJ B h_plus h_digit_times (npL h_number_power) F) (λ_ _ _ _ _ _=>zbV λ_ _=>rfl);have h_times:=M q8 (λ_ F=>ygD B h_plus h_digit_times h_lifted F) (λ_ _ _ _ _ _=>zbl λ_ _ _=>rfl);have h_times_itself:=M q9 (λ_ F=>yfA B h_times F) (λ_ _ _ _ _ _=>zbl λ_ _ _=>rfl);have h_over:=M q10 (λ_ F=>zhg B h_times h_times_itself h_many_things F) (λ_ _ _ _ _ _=>zbl λ_ _ _=>rfl);have h_power:=M q11 (λ_ F=>zgs B h_times_itself h_many_things F) (λ_ _ _ _ _ _=>zbl λ_ _ _=>rfl);have h_round_of:=M q12 (λ_ F=>ygy B h_times F) (λ_ _ _ _ _ _=>zbV λ_ _=>rfl);have h_length:=M q13 (λ_ F=>zgf B h_round_of F) (λ_ _ _ _ _ _=>zbU λ_=>rfl);have h_letters:=M q14 (λ_ F=>zfn B (npL h_number_power) h_power h_many_things F) (λ_ _ _ _ _ _=>zbV λ_ _=>rfl);have h_word_sum:=M q15 (λ_ F=>yev B h_plus F) (λ_ _ _ _ _ _=>zbl λ_ _ _=>rfl);have h_word_times:=M q16 (λ_ F=>zdL B h_times F) (λ_ _ _ _ _ _=>zbl λ_ _ _=>rfl);have h_trimmed:=M q17 (λ_ F=>zgN B  F) (λ_ _ _ _ _ _=>zbU λ_=>rfl);have h_widened:=M q18 (λ_ F=>yim B  F) (λ_ _ _ _ _ _=>zbV λ_ _=>rfl);have h_row_times:=M q19 (λ_ F=>yfC B h_plus h_times (yhZ h_trimmed) F) (λ_ _ _ _ _ _=>zbl λ_ _ _=>rfl);have h_row_over:=M q20 (λ_ F=>zgY B h_over h_minus h_times (yhZ h_trimmed) F) (λ_ _ _ _ _ _=>zbl λ_ _ _=>rfl);have h_row_of_roots:=M q21 (λ_ F=>yh2 B h_row_times h_minus h_power F) (λ_ _ _ _ _ _=>zbl λ_ _ _=>rfl);have h_maker:=M q22 (λ_ F=>ygU B h_row_of_roots F) (λ_ _ _ _ _ _=>zbU λ_=>rfl);have h_free:=M q23 (λ_ F=>yhm B h_length F) (λ_ _ _ _ _ _=>zbU λ_=>rfl);have h_how_many:=M q24 (λ_ F=>ygV B (npL h_number_power) h_free F) (λ_ _ _ _ _ _=>zbU λ_=>rfl);have h_made:=M q25 (λ_ F=>zhQ B h_row_over h_trimmed h_maker h_minus h_widened F) (λ_ _ _ _ _ _=>zbV λ_ _=>rfl);have h_words:=M q26 (λ_ F=>zgD m_MOST_WORDS B h_how_many h_letters h_free h_made h_word_times h_word_sum F) (λ_ _ _ _ _ _=>zbU λ_=>rfl);have h_weight:=M q27 (λ_ F=>yfP B  F) (λ_ _ _ _ _ _=>zbU λ_=>rfl);have h_counts:=M q28 (λ_ F=>zfs B h_length h_words h_weight F) (λ_ _ _ _ _ _=>zbU λ_=>rfl);have h_wide_count:=M q29 (λ_ F=>zfW B h_choices h_number_power F) (λ_ _ _ _ _ _=>zis λ_ _ _ _=>rfl);have h_wide_counts:=M q30 (λ_ F=>zfd B h_wide_count F) (λ_ _ _ _ _ _=>zbl λ_ _ _=>rfl);have h__law_purse:=M q31 (λ_ F=>zgQ B  F) (λ_ _ _ _ _ _=>zbU λ_=>rfl);have h__law_pick:=M q32 (λ_ F=>zhX B  F) (λ_ _ _ _ _ _=>zbV λ_ _=>rfl);have h__law_raised:=M q33 (λ_ F=>yff B  F) (λ_ _ _ _ _ _=>zbV λ_ _=>rfl);have h__law_digits:=M q34 (λ_ F=>zfR B  F) (λ_ _ _ _ _ _=>zbV λ_ _=>rfl);have h__law_number:=M q35 (λ_ F=>zgd B  F) (λ_ _ _ _ _ _=>zbV λ_ _=>rfl)
 have h__law_product:=M q36 (λ_ F=>yfm B h__law_digits h__law_number F) (λ_ _ _ _ _ _=>zbl λ_ _ _=>rfl);have h__law_is_good:=M q37 (λ_ F=>zhs B (npL h__law_raised) h__law_product F) (λ_ _ _ _ _ _=>zbU λ_=>rfl);have h__law_field:=M q38 (λ_ F=>zgS B h__law_pick (npL h__law_raised) h__law_is_good F) (λ_ _ _ _ _ _=>zbU λ_=>rfl);have h__law_table:=M q39 (λ_ F=>zgR B (npL h__law_raised) h__law_product F) (λ_ _ _ _ _ _=>zbU λ_=>rfl);have h__law_plus:=M q40 (λ_ F=>ygR B  F) (λ_ _ _ _ _ _=>zbl λ_ _ _=>rfl);have h__law_times:=M q41 (λ_ F=>ygd B  F) (λ_ _ _ _ _ _=>zbl λ_ _ _=>rfl);have h__law_minus:=M q42 (λ_ F=>zgb B h__law_plus h__law_times F) (λ_ _ _ _ _ _=>zbl λ_ _ _=>rfl);have h__law_power:=M q43 (λ_ F=>zg0 B  F) (λ_ _ _ _ _ _=>zbl λ_ _ _=>rfl);have h__law_round:=M q44 (λ_ F=>zgm B h__law_times F) (λ_ _ _ _ _ _=>zbV λ_ _=>rfl);have h__law_letters:=M q45 (λ_ F=>yeF B (npL h__law_raised) h__law_power F) (λ_ _ _ _ _ _=>zbV λ_ _=>rfl);have h__law_maker:=M q46 (λ_ F=>yfs B h__law_power h__law_minus h__law_times F) (λ_ _ _ _ _ _=>zbV λ_ _=>rfl);have h__law_added:=M q47 (λ_ F=>yhS B h__law_plus F) (λ_ _ _ _ _ _=>zbl λ_ _ _=>rfl);have h__law_words:=M q48 (λ_ F=>yfB B h__law_round h__law_maker h__law_letters h__law_times h__law_added F) (λ_ _ _ _ _ _=>zbV λ_ _=>rfl);have h__law_choices:=M q49 (λ_ F=>zew B  F) (λ_ _ _ _ _ _=>zbU λ_=>rfl);have h__law_right:=M q50 (λ_ F=>zfN B h_wide_counts h__law_raised F) (λ_ _ _ _ _ _=>zis λ_ _ _ _=>rfl);have h__law_row_wheel:=M q51 (λ_ F=>zgA B h__law_pick h__law_field h__law_table h__law_raised h__law_round F) (λ_ _ _ _ _ _=>zbU λ_=>rfl);exact yil (P:=l.prog) (w:=w) (base:=base) B h__law_purse h__law_pick h__law_choices h__law_right h__law_row_wheel h__law_round h__law_words h_wide_counts h_counts F52
theorem all_mk(K:PySem.W.Frag):GG K:=K_of zhG K
theorem walk{l:PySem.W.OpenLaw}{XP:(Str->Option Value)->Heap->Prop}{YP:World->Heap->Prop}{d:DefRec}{K:Params->PySem.W.Frag}(hn:l.most=some 63)(hdf:d.params.defaults=[])
  (hY:∀(w:World) (h:Heap),YP w h->(K w.params).In h)
  (F:∀(w:World) (mg:Str->Option Value) (fa:Addr) (h:Heap),(K w.params).In h->h.Ns mainGlobals mg->mg d.name=some (.ref fa)->
   ∃fd:FuncData,(∀(s:Shared) (u:Value),BindsTo s fd ⟨[u],[]⟩ [("_law_script",u)])/\∀base:Heap,(K w.params).In base->base.Ns mainGlobals mg->FnOk l.prog w (K w.params) mg base CX0 11 fa fd ["_law_script"] (zdf (K w.params))) :
  PySem.W.WalkO q loose XP YP l.row.toRowW d [] (λf vs=>PySem.call f vs) :=
 L2.walk_of (n:=63) (k:=11) (x:="_law_script") (CX:=λ_=>CX0) (sp:=λw=>zdf (K w.params)) hn (by decide) hdf ⟨rfl,by decide,by decide,rfl⟩ hY F (λ_ _ a ns hl _ hS=>ygB hl hS) λ_ _ _ _ _ z=>z
end My
namespace PySem.W.Fast
def tw10934595822999651632:=0
def tw3577237067557980318:=0
def tw13299249486693791414:=0
def tw2672844768760128821:=0
def tw17009891467113723859:=0
def tw2890222041098947711:=0
def tw8784880212689786511:=0
def tw11035053714793425322:=0
def tw887646845239556580:=0
def tw7154282212132331493:=0
def tw4735035664470926748:=0
def tw17998988276955636226:=0
def tw10998170973527665091:=0
def tw10411950085513473045:=0
def tw17502381487200199496:=0
def tw10210688490988678823:=0
def tw18246100816173895519:=0
def tw16934070868117133722:=0
def tw16822578057106297256:=0
def tw10850829526563676843:=0
def tw6593445899027160855:=0
def tw3569275926937915969:=0
def tw17489457213773729121:=0
def tw14912939545131899993:=0
def tw8619422773477736245:=0
def tw5535541254808324804:=0
def tw9779658100195160528:=0
def tw5487136612302532983:=0
def tw9684742598739879689:=0
def tw10340783717780149069:=0
def tw14545606965096982385:=0
def tw14527175531042714812:=0
def tw3465150550808440385:=0
def tw1418789162285088881:=0
def tw3100651217734031455:=0
def tw9409469209203101827:=0
def tw12831531880256743536:=0
def tw13248259591189215315:=0
def tw623504410014963879:=0
def tw14371162308176135688:=0
def tw247431883902322216:=0
def tw4733471496042846385:=0
def tw6823785005217435455:=0
def tw4127456177702352354:=0
def tw11027536120420824410:=0
def tw18249610559520295522:=0
def tw12330130902363635038:=0
def tw14257470651078679584:=0
def tw4049896604612978420:=0
def tw12469243923575006604:=0
def tw13957686516813756627:=0
def tw11392070747479941346:=0
def tw924099541434113463:=0
def tw3286357089702142688:=0
def tw13918288630837810283:=0
def tw16659928897242945485:=0
def tw9225482912340454036:=0
def tw5189187523835223600:=0
def tw10541703433634416680:=0
def tw300269041075671816:=0
def tw3348771269730176942:=0
def tw15619947990208180211:=0
def tw10476400560264180024:=0
def tw11851341785628043425:=0
def tw9307347349726587240:=0
def tw16152659135493818477:=0
def tw4077338308651991609:=0
def tw7303394110070402989:=0
def tw7074490844965723036:=0
def tw13057552946860613460:=0
def tw11813618373431875682:=0
def tw4387108140088522959:=0
def tw1584962947480373513:=0
def tw1241916045995775574:=0
def tw14104429267360146536:=0
def tw18085362436472523430:=0
def tw11055578250563916638:=0
def tw2396011517312339357:=0
def tw5651291358156377351:=0
def tw13130800050710717837:=0
def tw7162250285146300607:=0
def tw15363784949625909781:=0
def tw16494603668541845674:=0
def tw7106526913548647965:=0
def tw911403045505526487:=0
def tw18041357427336382009:=0
def tw1005863780514748951:=0
def tw7304404052813444824:=0
def tw1149676494174956691:=0
def tw13272433100198404596:=0
def tw8729984528218506622:=0
def tw2947002022737340569:=0
def tw10944278290102470294:=0
def tw9233216631173900811:=0
def tw180808477535442983:=0
def tw14619791508828616606:=0
def tw2669765365038425005:=0
def tw12243143684573105731:=0
def tw14590548235161328255:=0
def tw9609669201670301536:=0
def tw15704407710730004183:=0
def tw8546295487430917776:=0
def tw4599861127411818861:=0
def tw2379767925569126207:=0
def tw11442930955213046231:=0
def tw13453854538576163580:=0
def tw8775408378762852071:=0
def tw17818099615458021988:=0
def tw9633325316657833685:=0
def tw7676544753813953607:=0
def tw9019470582324493261:=0
def tw3924426751537029360:=0
def tw6153831102777484484:=0
def tw3864540169072545242:=0
def tw11527533124659205080:=0
def tw14659922856981842490:=0
def tw2240366864399931714:=0
def tw5280711761080514930:=0
def tw144754172320234673:=0
def tw11388465277798042122:=0
def tw11772396842639056563:=0
def tw9083321304190734193:=0
def tw178771299243248954:=0
def tw7101126047897498005:=0
def tw2532651802840826225:=0
def tw14156645068624354327:=0
def tw13309648334276411615:=0
def tw10191603187550223848:=0
def tw10919974557967779215:=0
def tw1817746102687311452:=0
def tw13097389308174936664:=0
def tw5715593772770280419:=0
def tw15092637973123435605:=0
def tw16314789574591477327:=0
def tw6704867450320433103:=0
def tw16027347216073154974:=0
def tw2151144019526403761:=0
def tw10124250333206313971:=0
def tw9870362479761907832:=0
def tw16937926529886074851:=0
def tw10063739659668874369:=0
def tw10201581007906095952:=0
def tw17412406065930586547:=0
def tw14261271833005700090:=0
def tw12751483558654476272:=0
def tw16325626750437470540:=0
def tw2840579579160913130:=0
def tw8152046580870850862:=0
def tw10499134432978917747:=0
def tw13956018511575786498:=0
def tw577464001946911553:=0
def tw9830343967619986844:=0
def tw2751857290642161867:=0
def tw1423994678265809492:=0
def tw3472356324025403388:=0
def tw1850621985195182939:=0
def tw11321512683726604416:=0
def tw13687959766956297284:=0
def tw5600900227207518183:=0
def tw14287997736719551041:=0
def tw14977558052429885424:=0
def tw9076891424057123905:=0
def tw16547161877739585304:=0
def tw2218669889188721147:=0
def tw12439193845596257168:=0
def tw15795764125391415611:=0
def tw15016067323567986444:=0
def tw11180490520909242818:=0
def tw10212375841020422632:=0
def tw9511008851136055173:=0
def tw15389370079212797632:=0
def tw3785318273234509235:=0
def tw2021165751036501899:=0
def tw10098960421742425826:=0
def tw17088568304009929525:=0
def tw2408559541955675745:=0
def tw16939101499739794149:=0
def tw4348723195560235918:=0
def tw9460254295730149318:=0
def tw4736567817883357479:=0
def tw9822521260484913570:=0
def tw3711124826203550006:=0
def tw4139489789546708917:=0
def tw5420120437613522496:=0
def tw13571433007051579689:=0
def tw15424601732699469153:=0
def tw6889302194253724007:=0
def tw10603719848364283008:=0
def tw1680952405883504582:=0
def tw2561525143368656874:=0
def tw14000395710869534145:=0
def tw15683742865138291410:=0
def tw6117394433464450773:=0
def tw11369504352602151699:=0
def tw8735559313227957597:=0
def tw12806637256974624385:=0
def tw17219771323959912210:=0
def tw15794662862833466024:=0
def tw16127131819644522706:=0
def tw1677768121864766954:=0
def tw13416860669239482823:=0
def tw3012090122745941605:=0
def tw14757791891360497152:=0
def tw13169822568932567342:=0
def tw13957197945636390682:=0
def tw5315380268882215835:=0
def tw10705651641573868674:=0
def tw11920942062754210495:=0
def tw18274417285505131897:=0
def tw12783027296399727930:=0
def tw15012662857392307864:=0
def tw3018428575002848017:=0
def tw10540603564197551707:=0
def tw18155650864950777246:=0
def tw17960070766158617243:=0
def tw8463598031059343396:=0
def tw12635924383012766905:=0
def tw4510355916934639873:=0
def tw6158753541409665283:=0
def tw14929775093912123081:=0
def tw12770259800762976561:=0
def tw9542238884079429437:=0
def tw8540992240420539324:=0
def tw2638605529062919768:=0
def tw12324347122939599277:=0
def tw17658774683332956899:=0
def tw4208455164802168670:=0
def tw16927872464001219983:=0
def tw216728420271763367:=0
def tw14696210071529211111:=0
def tw8794757010493371769:=0
def tw17349260845681158310:=0
def tw7902267711225328537:=0
def tw10974089579770395833:=0
def tw3341118764053454040:=0
def tw8779946621549862136:=0
def tw6786363410020398601:=0
def tw14570821093742165799:=0
def tw12757193559639603948:=0
def tw2438847198825710409:=0
def tw7080989822312516951:=0
def tw10092051355921501690:=0
def tw10118832877312455486:=0
def tw6689456695538899478:=0
def tw1470107409070778912:=0
def tw14901875722049117043:=0
def tw7693332576410777374:=0
def tw7907910131666913049:=0
def tw11428550259411988128:=0
def tw3455317083440170855:=0
def tw10664283166779518929:=0
def tw6807961682915699330:=0
def tw8206053146035586170:=0
def tw1505500011588548735:=0
def tw16712559281140944010:=0
def tw4468589925172714018:=0
def tw15555135188252823738:=0
def tw13901728307544904071:=0
def tw5116714797488941764:=0
def tw1199283473554322626:=0
def tw12760120295255338060:=0
def tw14078430895563128940:=0
def tw9202112303012870221:=0
def tw6993825907129018868:=0
def tw13243361127171092625:=0
def tw9389959811814400144:=0
def tw6451230850109095437:=0
def tw10780122176278676191:=0
def tw11202062175016839809:=0
def tw14488455046680364358:=0
def tw15520983720631952990:=0
def tw6604416072880219336:=0
def tw10336643999002928121:=0
def tw8310756203020742205:=0
def tw12493238973209987332:=0
def tw17428678010252885253:=0
def tw6985284178732776760:=0
def tw13786243982803288495:=0
def tw12489060544388707963:=0
def tw13654221342454861225:=0
def tw2996378440962555431:=0
def tw11209297620356080248:=0
def tw17862384127332442969:=0
def tw17191359099424723134:=0
def tw9980022060028670313:=0
def tw11649105861098092908:=0
def tw7166646814245320784:=0
def tw11114307761635293772:=0
def tw738871872091691712:=0
def tw11584384802057380339:=0
def tw13897364425688499880:=0
def tw10068336820195516669:=0
def tw225090373125005642:=0
def tw10170863009193845666:=0
def tw6911170481620764719:=0
def tw16266285223142672339:=0
def tw954161987873979785:=0
def tw6022378659513127875:=0
def tw10363554872219146347:=0
def tw17467710011069043192:=0
def tw13189213373447515725:=0
def tw13789479977351523766:=0
def tw12856350028751091007:=0
def tw8120705491859941773:=0
def tw6482865840763693180:=0
def tw6226639252153955005:=0
def tw11285740728437209627:=0
def tw2980579766208941569:=0
def tw16987249709590965148:=0
def tw15130944110245833618:=0
def tw18113552146617917281:=0
def tw8304556484540687865:=0
def tw11105018272326649190:=0
def tw13409654042550743452:=0
def tw6470460905528880609:=0
def tw10338982498599510114:=0
def tw7315433601611933856:=0
def tw14769180101204284945:=0
def tw14858642312722070725:=0
def tw17615820288419024860:=0
def tw10383920269033454636:=0
def tw1970184275810438567:=0
def tw16784452915111355430:=0
def tw10899335383441927735:=0
def tw4010141634062131174:=0
def tw13086593425296097787:=0
def tw16994405518636599712:=0
def tw10845240921022256749:=0
def tw17283956978664005650:=0
def tw8553903005255012285:=0
def tw12611716433182519696:=0
def tw2615445493926753647:=0
def tw14263591796865563314:=0
def tw6899099842470542257:=0
def tw6715340291025673793:=0
def tw3464827321063662947:=0
def tw10811285793969421640:=0
def tw5051236140080876819:=0
def tw15647342382237083213:=0
def tw15906115336790761990:=0
def tw4625598825574423863:=0
def tw16338255870752911117:=0
def tw9831873164244071625:=0
def tw1934707567696887635:=0
def tw8665417229748307672:=0
def tw5082309645919967128:=0
end PySem.W.Fast
open PySem PySem.W PyProof.Rows
set_option maxRecDepth 100000 in
set_option maxHeartbeats 0 in
theorem PySem.Challenge.cw_roundwords_k32_wide_counts_holds : PySem.Challenge.rw_roundwords_k32_wide_counts.Holds := by
 w_on;refine holds_law zih λsaid=>?_;k_head;(case hw=>w_witness2)
 k_fill
 refine My.walk (l:=PySem.Challenge.rw_roundwords_k32_wide_counts) rfl rfl (λw h Y=>PySem.W.kIn_of Y) ?F
 case F=>
  intro w mg fa h KX G hmg;apply My.all_mk _ KX G hmg
  all_goals first|(apply My.DI.mk <;> k_is)|k_is
#print axioms PySem.Challenge.cw_roundwords_k32_wide_counts_holds
end
