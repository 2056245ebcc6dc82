import PyProof.Rows.All
import Wide.All
import OpenK.AllK
import Wide.FinOn
import Lean
import PyProof.EqAt
import PyProof.EqKinds
import PyProof.TupleCall
import KE.KUnpack
import PyProof.ListRange
import PyProof.TupleOfGen
import PyProof.NeKinds
import KE.KRevIter
import PyProof.FactsAll.range_2
import KE.KTryMore
import PyProof.IsRules
import PyProof.IsInstanceH
import PyProof.ReprRoads
import PyProof.CallStr
import KE.KSortTup
import PySem.Challenge.RW_roundwords_k22_too_many_words
set_option Elab.async false
set_option linter.all false
set_option maxRecDepth 100000
set_option maxHeartbeats 4000000
noncomputable section
local macro_rules|`(tactic|trivial)=>`(tactic|first|exact .inl rfl|exact .inr rfl|assumption)
local macro_rules|`(⋯)=>`((by rfl))
theorem yhb:PySem.Challenge.rw_roundwords_k22_too_many_words.wellSaid=true:=by decide +kernel
section
-- text: PpList
namespace L2
open PySem PySem.Spec PyProof.Rows
abbrev Key:=Sum Int Str
def yev:Key→Value→Bool
  | .inl k,v=>Value.isInt k v
  | .inr x,v=>Value.isStrOf x v
def keyH (w:World):Key→Int
  | .inl k=>hashInt k
  | .inr x=>hashStr w x
theorem zay:∀ {k:Key} {v:Value},yev k v=true→(∃i t,k=Sum.inl i∧v=Value.int i t)∨(∃x t,k=Sum.inr x∧v=Value.str x t)
  | .inl i,v,h=>by
    obtain ⟨t,e⟩:=Value.isInt_shape (k:=i) (v:=v) h
    exact .inl ⟨i,t,rfl,e⟩
  | .inr x,v,h=>by
    obtain ⟨t,e⟩:=Value.isStrOf_shape (x:=x) (v:=v) h
    exact .inr ⟨x,t,rfl,e⟩
theorem ye7 (i:Int) (t:Tok):yev (.inl i) (.int i t)=true:=by simp [yev,Value.isInt]
theorem yeZ (x:Str) (t:Tok):yev (.inr x) (.str x t)=true:=by simp [yev,Value.isStrOf]
theorem ygZ (a b:Int):decide ((Sum.inl a:Key)=Sum.inl b)=(a==b):=by
  by_cases e:a=b
  · subst e;simp
  · have h:¬ (Sum.inl a:Key)=Sum.inl b:=fun q=>e (Sum.inl.inj q)
    rw [decide_eq_false h]
    exact (beq_eq_false_iff_ne.mpr e).symm
theorem yg7 (a b:Str):decide ((Sum.inr a:Key)=Sum.inr b)=decide (a=b):=by
  by_cases e:a=b
  · subst e;simp
  · have h:¬ (Sum.inr a:Key)=Sum.inr b:=fun q=>e (Sum.inr.inj q)
    rw [decide_eq_false h,decide_eq_false e]
theorem zg0 (a:Int) (b:Str):decide ((Sum.inl a:Key)=Sum.inr b)=false:=decide_eq_false (fun q=>nomatch q)
theorem ygM (a:Str) (b:Int):decide ((Sum.inr a:Key)=Sum.inl b)=false:=decide_eq_false (fun q=>nomatch q)
def yaF (prog:Program) (w:World):PySem.KeyKind prog w Key where
  is:=yev
  hash:=keyH w
  inj:=fun v a b ha hb=>by
    rcases zay ha with ⟨i,t,rfl,rfl⟩ | ⟨x,t,rfl,rfl⟩
    · rcases zay hb with ⟨j,u,rfl,e⟩ | ⟨y,u,rfl,e⟩
      · injection e with e1 _;rw [e1]
      · exact nomatch e
    · rcases zay hb with ⟨j,u,rfl,e⟩ | ⟨y,u,rfl,e⟩
      · exact nomatch e
      · injection e with e1 _;rw [e1]
  byValue:=fun k v h=>by
    rcases zay h with ⟨i,t,rfl,rfl⟩ | ⟨x,t,rfl,rfl⟩ <;> rfl
  pyHash:=fun hv h=>by
    rcases zay hv with ⟨i,t,rfl,rfl⟩ | ⟨x,t,rfl,rfl⟩
    · exact wpAny_pyHash_int h
    · exact wpAny_pyHash_str h
  eqBool:=fun hu hv h=>by
    rcases zay hu with ⟨i,t,rfl,rfl⟩ | ⟨x,t,rfl,rfl⟩
    · rcases zay hv with ⟨j,u,rfl,rfl⟩ | ⟨y,u,rfl,rfl⟩
      · rw [ygZ] at h;exact wpAny_eqBool_int h
      · rw [zg0] at h;exact SeqAt.EqAt.int_str i t y u _ _ _ _ h
    · rcases zay hv with ⟨j,u,rfl,rfl⟩ | ⟨y,u,rfl,rfl⟩
      · rw [ygM] at h;exact SeqAt.EqAt.str_int x t j u _ _ _ _ h
      · rw [yg7] at h;exact wpAny_eqBool_str h
  «strs»:=fun k x t v h=>by
    rcases zay h with ⟨i,u,rfl,e⟩ | ⟨y,u,rfl,e⟩
    · exact nomatch e
    · injection e with e1 _
      subst e1
      cases v <;> rfl
theorem ydY (prog:Program) (w:World) (i:Int) (t:Tok):(yaF prog w).is (.inl i) (.int i t)=true:=ye7 i t
theorem zdR (prog:Program) (w:World) (x:Str) (t:Tok):(yaF prog w).is (.inr x) (.str x t)=true:=yeZ x t
end L2
namespace L2
open PySem PySem.Spec PyProof.Rows
inductive V where
  | non|bl (b:Bool)|int (i:Int)|str (x:Str)|byt (b:Array UInt8)|flt (b:UInt64)|ref (a:Addr)|ty (n:String)
  deriving DecidableEq
def RelV:V→Value→Prop
  | .non,u=>u=Value.none
  | .bl b,u=>u=Value.bool b
  | .int i,u=>∃t,u=Value.int i t
  | .str x,u=>∃t,u=Value.str x t
  | .byt b,u=>∃t,u=Value.bytes b t
  | .flt b,u=>∃t,u=Value.float b t
  | .ref a,u=>u=Value.ref a
  | .ty n,u=>u=Value.type n
abbrev Vals:List V→List Value→Prop:=Paired RelV
theorem Vals.length {xs:List V} {us:List Value} (r:Vals xs us):xs.length=us.length:=Paired.length r
theorem Vals.get:∀ {xs:List V} {us:List Value} {i:Nat} {x:V},Vals xs us→xs[i]?=some x→∃u,us[i]?=some u∧RelV x u
  | _,_,_,_,.nil,e=>by simp at e
  | _,_,0,_,.cons r _,e=>by simp at e;subst e;exact ⟨_,rfl,r⟩
  | _,_,i+1,x,.cons _ t,e=>by
    obtain ⟨u,h1,h2⟩:=Vals.get (i:=i) (x:=x) t (by simpa using e)
    exact ⟨u,by simpa using h1,h2⟩
theorem Vals.set {x:V} {u:Value} (r:RelV x u):∀ {xs:List V} {us:List Value} (i:Nat),Vals xs us→Vals (xs.set i x) (us.set i u)
  | _,_,_,.nil=>.nil
  | _,_,0,.cons _ t=>.cons r t
  | _,_,i+1,.cons q t=>.cons q (Vals.set r i t)
theorem Vals.append:∀ {xs ys:List V} {us ws:List Value},Vals xs us→Vals ys ws→Vals (xs++ys) (us++ws)
  | _,_,_,_,.nil,s=>s
  | _,_,_,_,.cons r t,s=>.cons r (Vals.append t s)
theorem Vals.take:∀ {xs:List V} {us:List Value} (n:Nat),Vals xs us→Vals (xs.take n) (us.take n)
  | _,_,0,_=>.nil
  | _,_,_+1,.nil=>.nil
  | _,_,n+1,.cons r t=>.cons r (Vals.take n t)
theorem Vals.drop:∀ {xs:List V} {us:List Value} (n:Nat),Vals xs us→Vals (xs.drop n) (us.drop n)
  | _,_,0,r=>r
  | _,_,_+1,.nil=>.nil
  | _,_,n+1,.cons _ t=>Vals.drop n t
def RelO:Option V→Option Value→Prop
  | some v,some u=>RelV v u
  | none,none=>True
  | _,_=>False
def KV {κ:Type}:List (κ×V)→List (κ×Value)→Prop:=Paired fun (p:κ×V) (q:κ×Value)=>p.1=q.1∧RelV p.2 q.2
def kV:Key→V
  | .inl i=>.int i
  | .inr x=>.str x
inductive HO where
  | lst (xs:List V)
  | tup (xs:List V)
  | dK (kvs:List (Key×V))|dT (kvs:List (List Key×V))
  | set (S:Int→Bool) (n:Nat)
  | ins (C dx:Addr) (fs:List (Str×V))
  | own (x:Addr)
  | xd (fs:List (Str×V))
  | met (f x:Addr)
  | rng (lo hi:Int)
  | frz (o:Obj) (u:HO)
  | tbl (ps:Array Value)
  | ext (φ:Heap→Prop)
abbrev Hp:=Addr→Option HO
def upd (H:Hp) (a:Addr) (o:HO):Hp:=fun b=>if b=a then some o else H b
theorem zab {H:Hp} {a:Addr} {o:HO}:upd H a o a=some o:=by unfold upd;rw [if_pos rfl]
theorem zag {H:Hp} {a b:Addr} {o:HO} (h:b≠a):upd H a o b=H b:=by unfold upd;rw [if_neg h]
theorem ydM {H:Hp} {a:Addr} {o u:HO}:upd (upd H a o) a u=upd H a u:=by
  funext b;unfold upd;split <;> rfl
theorem yae {H:Hp} {a b:Addr} {o:HO} (h:H a=some o) (h':H b=none):a≠b:=by
  intro e;subst e;rw [h] at h';cases h'
section
variable (P:Program) (w:World)
def zaW (H:Hp) (h:Heap) (a:Addr):HO→Prop
  | .lst xs=>xs.length≤sizeLine∧∃(its:List Value) (n:Nat),Vals xs its∧h.get? a=some { cls:=.type "list",data:=.seq its.toArray n }
  | .tup xs=>xs.length≤sizeLine∧∃its:List Value,Vals xs its∧IsTup h a its.toArray
  | .dK kvs=>kvs.length≤sizeLine∧(a==sysModules)=false∧∃vs,KV kvs vs∧h.DictOf (yaF P w) a vs
  | .dT kvs=>kvs.length≤sizeLine∧(a==sysModules)=false∧∃xs:List (List Key×Addr×Value),
      Paired (fun (p:List Key×V) (q:List Key×Addr×Value)=>p.1=q.1∧H q.2.1=some (.tup (p.1.map kV))∧RelV p.2 q.2.2) kvs xs∧
      ∃o es ep,h.get? a=some o∧o.ExactDict∧o.data = .dict es ep∧es.toList=xs.map (entryOfKey (tupleKind (yaF P w)))∧(xs.map (·.1)).Nodup
  | .set S n=>h.SetOf (intKind P w) a S n
  | .ins C dx fs=>H dx=some (.own a)∧fs.length≤1000∧dx≠a∧h.get? a=some (PySem.W.instObj C dx)∧
      ∃mA,h.Ns1 dx mA∧(∀f,RelO (fs.lookup f) (mA f))∧PySem.Within mA (fs.map (·.1))
  | .own _=>∃o,h.get? a=some o
  | .xd fs=>∃mA,h.Ns1 a mA∧∀f,RelO (fs.lookup f) (mA f)
  | .rng lo hi=>∃t u v,h.get? a=some { cls:=.type "range",data:=.fields #[.int lo t,.int hi u,.int 1 v] }
  | .frz o u=>h.get? a=some o∧zaW H h a u
  | .tbl ps=>h.get? a=some { cls:=.none,data:=.fields ps }
  | .met f x=>h.get? a=some (PySem.W.methodObj (.ref f) (.ref x))
  | .ext φ=>φ h∧(∃o,h.get? a=some o)∧∀h1 h2:Heap,φ h1→(∀o,h1.get? a=some o→h2.get? a=some o)→φ h2
def HOk (H:Hp) (h:Heap):Prop:=∀a o,H a=some o→zaW P w H h a o
end
section
variable {P:Program} {w:World} {H H':Hp} {h h':Heap} {a:Addr} {o:HO}
theorem zaW.lt (x:zaW P w H h a o):a<h.objs.size:=by
  cases o with
  | lst xs=>obtain ⟨_,_,_,_,e⟩:=x;exact Heap.lt_size e
  | tup xs=>obtain ⟨_,_,_,p⟩:=x;exact p.lt
  | dK kvs=>obtain ⟨_,_,_,_,o,_,_,e,_⟩:=x;exact Heap.lt_size e
  | dT kvs=>obtain ⟨_,_,_,_,o,_,_,e,_⟩:=x;exact Heap.lt_size e
  | set S n=>obtain ⟨o,_,_,_,e,_⟩:=x;exact Heap.lt_size e
  | ins C dx fs=>obtain ⟨_,_,_,e,_⟩:=x;exact Heap.lt_size e
  | own y=>obtain ⟨_,e⟩:=x;exact Heap.lt_size e
  | xd fs=>obtain ⟨_,⟨_,_,_,e,_⟩,_⟩:=x;exact Heap.lt_size e
  | rng lo hi=>obtain ⟨_,_,_,e⟩:=x;exact Heap.lt_size e
  | frz ob u=>obtain ⟨e,_⟩:=x;exact Heap.lt_size e
  | tbl ps=>exact Heap.lt_size (show h.get? a=some _ from x)
  | met f y=>exact Heap.lt_size (show h.get? a=some _ from x)
  | ext φ=>obtain ⟨_,⟨_,e⟩,_⟩:=x;exact Heap.lt_size e
theorem Paired.mapP {α β:Type} {F G:α→β→Prop}:∀ {l₁:List α} {l₂:List β},Paired F l₁ l₂→(∀a b,F a b→G a b)→Paired G l₁ l₂
  | _,_,.nil,_=>.nil
  | _,_,.cons r t,f=>.cons (f _ _ r) (Paired.mapP t f)
theorem zaW.stay (x:zaW P w H h a o) (k:∀b u,(b=a∨H b=some (.own a))→h.get? b=some u→h'.get? b=some u)
    (ho:∀b,H b=some (.own a)→H' b=some (.own a)) (ht:∀b xs,H b=some (.tup xs)→H' b=some (.tup xs)):zaW P w H' h' a o:=by
  induction o with
  | lst xs=>obtain ⟨z,its,n,r,e⟩:=x;exact ⟨z,its,n,r,k _ _ (.inl rfl) e⟩
  | tup xs=>obtain ⟨z,its,r,ob,e,c⟩:=x;exact ⟨z,its,r,ob,k _ _ (.inl rfl) e,c⟩
  | dK kvs=>obtain ⟨z,y,vs,r,ob,es,ep,e,c⟩:=x;exact ⟨z,y,vs,r,ob,es,ep,k _ _ (.inl rfl) e,c⟩
  | dT kvs =>
    obtain ⟨z,y,xs,r,ob,es,ep,e,c⟩:=x
    exact ⟨z,y,xs,Paired.mapP r fun p q z=>⟨z.1,ht _ _ z.2.1,z.2.2⟩,ob,es,ep,k _ _ (.inl rfl) e,c⟩
  | set S n=>obtain ⟨ob,es,ep,t,e,c⟩:=x;exact ⟨ob,es,ep,t,k _ _ (.inl rfl) e,c⟩
  | ins C dx fs =>
    obtain ⟨d,z,ne,e,mA,⟨od,es,ep,e2,c⟩,r⟩:=x
    exact ⟨ho _ d,z,ne,k _ _ (.inl rfl) e,mA,⟨od,es,ep,k _ _ (.inr d) e2,c⟩,r⟩
  | own y=>obtain ⟨ob,e⟩:=x;exact ⟨ob,k _ _ (.inl rfl) e⟩
  | xd fs=>obtain ⟨mA,⟨od,es,ep,e,c⟩,r⟩:=x;exact ⟨mA,⟨od,es,ep,k _ _ (.inl rfl) e,c⟩,r⟩
  | rng lo hi=>obtain ⟨t,u,v,e⟩:=x;exact ⟨t,u,v,k _ _ (.inl rfl) e⟩
  | frz ob u ih=>obtain ⟨e,q⟩:=x;exact ⟨k _ _ (.inl rfl) e,ih q⟩
  | tbl ps =>
    have e:h.get? a=some { cls:=.none,data:=.fields ps }:=x
    show h'.get? a=some { cls:=.none,data:=.fields ps }
    exact k a _ (.inl rfl) e
  | met f y =>
    have e:h.get? a=some (PySem.W.methodObj (.ref f) (.ref y)):=x
    show h'.get? a=some (PySem.W.methodObj (.ref f) (.ref y))
    exact k a _ (.inl rfl) e
  | ext φ=>obtain ⟨p,⟨o,e⟩,st⟩:=x;exact ⟨st _ _ p fun o q=>k _ _ (.inl rfl) q,⟨o,k _ _ (.inl rfl) e⟩,st⟩
theorem HOk.lt (x:HOk P w H h) (e:H a=some o):a<h.objs.size:=(x a o e).lt
theorem HOk.fresh (x:HOk P w H h) (e:h.objs.size≤a):H a=none:=by
  cases q:H a with
  | none=>rfl
  | some u=>exact absurd (Nat.lt_of_lt_of_le (x.lt q) e) (Nat.lt_irrefl _)
theorem HOk.kept (x:HOk P w H h) (k:∀b u,h.get? b=some u→h'.get? b=some u):HOk P w H h':=fun a o e =>
  (x a o e).stay (fun b u _ q=>k b u q) (fun _ q=>q) fun _ _ q=>q
theorem HOk.laid (x:HOk P w H h) (k:∀b u,h.get? b=some u→h'.get? b=some u) (hp:h.objs.size≤a) (new:zaW P w (upd H a o) h' a o):HOk P w (upd H a o) h':=fun b u e=>by
  have hn:=x.fresh hp
  by_cases hb:b=a
  · subst hb;rw [zab] at e;cases e;exact new
  · rw [zag hb] at e
    exact (x b u e).stay (fun c v _ q=>k c v q) (fun c q=>by rw [zag (yae q hn)];exact q) fun c xs q=>by rw [zag (yae q hn)];exact q
end
def Rd (H:Hp) (a:Addr) (u:HO):Prop:=H a=some u∨∃o,H a=some (.frz o u)
theorem Rd.ok {P:Program} {w:World} {H:Hp} {h:Heap} {a:Addr} {u:HO} (r:Rd H a u) (x:HOk P w H h):zaW P w H h a u:=by
  rcases r with r | ⟨o,r⟩
  · exact x a u r
  · obtain ⟨_,q⟩:=x a _ r
    exact q
def Mut:Option HO→Prop
  | some (.lst _)=>True
  | some (.dK _)=>True
  | some (.dT _)=>True
  | some (.set _ _)=>True
  | some (.ins _ _ _)=>True
  | some (.ext _)=>True
  | _=>False
section
variable {P:Program} {w:World} {H:Hp} {h h':Heap} {x e:Addr} {o':HO}
theorem HOk.write (ok:HOk P w H h) (mu:Mut (H x)) (he:e=x∨H e=some (.own x)) (k:∀b u,b≠e→h.get? b=some u→h'.get? b=some u) (heo:∃u,h'.get? e=some u)
    (new:zaW P w (upd H x o') h' x o'):HOk P w (upd H x o') h':=fun b u q=>by
  have nown:∀c y,H c=some (.own y)→c≠x:=fun c y r z=>by subst z;rw [r] at mu;exact mu
  have ntup:∀c xs,H c=some (.tup xs)→c≠x:=fun c xs r z=>by subst z;rw [r] at mu;exact mu
  by_cases hb:b=x
  · subst hb;rw [zab] at q;cases q;exact new
  · rw [zag hb] at q
    by_cases hbe:b=e
    · have q':H b=some (.own x):=by
        rcases he with z|z
        · exact absurd (hbe.trans z) hb
        · rw [hbe];exact z
      rw [q] at q';cases q'
      obtain ⟨v,hv⟩:=heo
      exact ⟨v,by rw [hbe];exact hv⟩
    · refine (ok b u q).stay (fun c v hc r=>k c v ?_ r) (fun c r=>by rw [zag (nown c b r)];exact r) fun c xs r=>by rw [zag (ntup c xs r)];exact r
      rcases hc with rfl|hc
      · exact hbe
      · rintro rfl
        rcases he with z|z
        · exact nown c b hc z
        · rw [hc] at z;cases z;exact hb rfl
end
structure Un (fs ex:List Addr) (H H':Hp) (h h':Heap):Prop where
  keep:∀b o,h.get? b=some o→H b=none→b∉fs→b∉ex→h'.get? b=some o
  slot:∀b o,h.get? b=some o→H b=none→b∈fs→b∉ex→∃sl,h'.get? b=some { o with slots:=sl }
  free:∀b o,h.get? b=some o→H b=none→b∉ex→H' b=none
  there:∀b o,h.get? b=some o→b∉ex→∃o',h'.get? b=some o'
  tups:∀b xs,H b=some (.tup xs)→H' b=some (.tup xs)
  frzs:∀b o u,H b=some (.frz o u)→H' b=some (.frz o u)
  tbls:∀b ps,H b=some (.tbl ps)→∃more,H' b=some (.tbl (ps++more))
section
variable {fs fs' ex ex':List Addr} {H H1 H2:Hp} {h h1 h2 h':Heap} {a x e:Addr} {o:HO}
theorem Un.any (u:Un fs ex H H1 h h1) {b:Addr} {ob:Obj} (q:h.get? b=some ob) (n:H b=none) (hx:b∉ex):∃sl,h1.get? b=some { ob with slots:=sl }:=by
  by_cases hb:b∈fs
  · exact u.slot b ob q n hb hx
  · exact ⟨ob.slots,u.keep b ob q n hb hx⟩
theorem Un.kept (k:∀b u,h.get? b=some u→h'.get? b=some u):Un fs ex H H h h' :=
  ⟨fun b ob q _ _ _=>k b ob q,fun b ob q _ _ _=>⟨ob.slots,k b ob q⟩,fun _ _ _ n _=>n,fun b ob q _=>⟨ob,k b ob q⟩,fun _ _ q=>q,fun _ _ _ q=>q,fun _ ps q=>⟨#[],by rw [q];simp⟩⟩
theorem Un.refl:Un fs ex H H h h:=Un.kept fun _ _ q=>q
theorem Un.laid (k:∀b u,h.get? b=some u→h'.get? b=some u) (hp:h.objs.size≤a) (hn:H a=none):Un fs ex H (upd H a o) h h' where
  keep:=fun b u q _ _ _=>k b u q
  slot:=fun b u q _ _ _=>⟨u.slots,k b u q⟩
  free:=fun b u q n _=>by rw [zag (Nat.ne_of_lt (Nat.lt_of_lt_of_le (Heap.lt_size q) hp))];exact n
  there:=fun b u q _=>⟨u,k b u q⟩
  tups:=fun b xs q=>by rw [zag (yae q hn)];exact q
  frzs:=fun b u xs q=>by rw [zag (yae q hn)];exact q
  tbls:=fun b ps q=>⟨#[],by rw [zag (yae q hn),q];simp⟩
theorem Un.write (mu:Mut (H x)) (he:e=x∨H e=some (.own x)) (k:∀b u,b≠e→h.get? b=some u→h'.get? b=some u) (heo:∃u,h'.get? e=some u):Un fs ex H (upd H x o) h h':=by
  have hx:∀b,H b=none→b≠x:=fun b n z=>by subst z;rw [n] at mu;exact mu
  have hb:∀b,H b=none→b≠e:=fun b n z=>by
    subst z
    rcases he with r|r
    · exact hx b n r
    · rw [n] at r;cases r
  have hm:∀b u,H b=some u→¬ Mut (some u)→b≠x:=fun b u q nm z=>by subst z;rw [q] at mu;exact nm mu
  refine ⟨fun b u q n _ _=>k b u (hb b n) q,fun b u q n _ _=>⟨u.slots,k b u (hb b n) q⟩,fun b u q n _=>by rw [zag (hx b n)];exact n,fun b u q _=>?_,
    fun b xs q=>by rw [zag (hm b _ q fun z=>z)];exact q,fun b u xs q=>by rw [zag (hm b _ q fun z=>z)];exact q,fun b ps q=>⟨#[],by rw [zag (hm b _ q fun z=>z),q];simp⟩⟩
  by_cases hbe:b=e
  · subst hbe;exact heo
  · exact ⟨u,k b u hbe q⟩
end
def trk (h:Heap) (H:Hp):List Addr:=(List.range h.objs.size).filter fun a=>(H a).isSome
def hidT (h:Heap) (H:Hp):Heap:=PySem.W.hideAll h (trk h H)
theorem zfl (h:Heap) (H:Hp):(hidT h H).objs.size=h.objs.size:=PySem.W.hideAll_size _ _
theorem zfN {h:Heap} {H:Hp} {b:Addr} {o:Obj} (e:h.get? b=some o) (n:H b=none):(hidT h H).get? b=some o :=
  PySem.W.hideAll_get _ e fun hm=>by
    have q:(H b).isSome=true:=(List.mem_filter.mp hm).2
    rw [n] at q;simp at q
theorem ygp {h:Heap} {H:Hp} {b:Addr} {o:Obj} (e:(hidT h H).get? b=some o):h.get? b=some o∧H b=none:=by
  have e':h.get? b=some o:=PySem.W.of_hideAll (trk h H) e
  refine ⟨e',?_⟩
  cases q:H b with
  | none=>rfl
  | some x =>
    have hm:b∈trk h H:=List.mem_filter.mpr ⟨List.mem_range.mpr (Heap.lt_size e'),by simp [q]⟩
    have z:(hidT h H).get? b=none:=PySem.W.hideAll_none (trk h H) hm
    rw [z] at e;cases e
end L2
namespace L2
open PySem PySem.Spec PyProof.Rows
structure Mod (K:PySem.W.Frag) (mg:Str→Option Value) (base:Heap):Prop where
  kin:K.In base
  glob:base.Ns mainGlobals mg
  blt:∃mb,base.Ns builtinsNs mb∧∀x:Str,x≠"__name__"→mb x=bootBuiltins x
  nolimit:base.NoLimit
structure Cx where
  prog:Program
  w:World
  K:PySem.W.Frag
  mg:Str→Option Value
  base:Heap
  A:Around
  N:List Str
  s₀:Shared
  H₀:Hp
  env:Env
  outer:List Env
  stack:List Env
  ex:List Addr
  fn:Str→Bool
  calm:Bool
  pn:List (Addr×Obj)
  xe:Value→Shared→Prop
def frs (l:List Env):List Addr:=l.filterMap (·.frame)
abbrev Cx.fs (X:Cx):List Addr:=frs X.outer
def Vis (sc:Scope) (x:Str):Prop:=sc.names.lookup x=some .local∨sc.names.lookup x=some .cell∨sc.names.lookup x=some .free
def Loc (sc:Scope) (x:Str):Prop:=sc.names.lookup x=some .local∨sc.names.lookup x=some .cell
def Look (env:Env) (h:Heap) (m:Str→Option Value) (x:Str) (u:Value):Prop :=
  (env.kindOf x=some .local∧m x=some u)∨((env.kindOf x=some .cell∨env.kindOf x=some .free)∧∃c,env.cells.lookup x=some c∧h.IsCell c (some u))
structure Cx.Ok (X:Cx):Prop where
  mod:Mod X.K X.mg X.base
  kind:X.env.scope.kind = .function
  glob:X.env.globals=mainGlobals
  blt:X.env.builtins=builtinsNs
  above:X.s₀.heap.objs.size≤X.env.locals
  inj:∀x y c,X.env.cells.lookup x=some c→X.env.cells.lookup y=some c→x=y
  has:∀x,(X.env.kindOf x=some .cell∨X.env.kindOf x=some .free)→∃c,X.env.cells.lookup x=some c
  cab:∀x c,X.fn x=true→X.env.cells.lookup x=some c→X.s₀.heap.objs.size≤c
  hd:X.calm=true→X.A.handled=none
  frames:X.A.frames=some X.stack
  stk:X.stack=X.outer∨(X.stack=X.env::X.outer∧X.env.frame=some X.env.locals)
  exf:∀b∈X.ex,b≠X.env.locals∧∀x c,X.env.cells.lookup x=some c→c≠b
  bs:∀b o,X.base.get? b=some o→X.s₀.heap.get? b=some o∧X.H₀ b=none
  bsz:X.base.objs.size≤X.s₀.heap.objs.size
  noex:∀b o,X.base.get? b=some o→b∉X.ex
  exfs:∀b∈X.ex,b∉X.fs
  funs:X.s₀.heap.FunFrames X.base X.outer
  frf:∀b∈X.fs,X.H₀ b=none
structure Inv (X:Cx) (pins:List (Addr×Obj)) (σ:List (Option V)) (H:Hp) (s:Shared):Prop where
  ok:X.Ok
  os:s.os=X.s₀.os
  bare:AllBare s.gens
  base:Un X.fs X.ex X.H₀ H X.s₀.heap s.heap
  loc:∃m,s.heap.Ns X.env.locals m∧∀(i:Nat) (x:Str) (v:V),X.N[i]?=some x→σ[i]?=some (some v)→Vis X.env.scope x→∃u,RelV v u∧Look X.env s.heap m x u
  cell:∀x c,X.env.cells.lookup x=some c→∃v,s.heap.IsCell c v
  free:H X.env.locals=none
  freeC:∀x c,X.env.cells.lookup x=some c→H c=none
  pin:∀p∈X.pn++pins,s.heap.get? p.1=some p.2∧H p.1=none∧p.1≠X.env.locals∧p.1∉X.fs∧∀v,p.2.data≠.cell v
  hok:HOk X.prog X.w H s.heap
  len:σ.length=X.N.length
section
variable {X:Cx} {pins:List (Addr×Obj)} {σ:List (Option V)} {H H':Hp} {s:Shared} {h':Heap}
theorem Cx.Ok.nofr (ok:X.Ok) {b:Addr} {o:Obj} (e:X.base.get? b=some o):b∉X.fs:=fun hb=>by
  have:=(ok.funs.mem hb).1
  rw [e] at this;cases this
theorem Inv.bs (I:Inv X pins σ H s):∀b o,X.base.get? b=some o→s.heap.get? b=some o∧H b=none:=fun b o e =>
  ⟨I.base.keep b o (I.ok.bs b o e).1 (I.ok.bs b o e).2 (I.ok.nofr e) (I.ok.noex b o e),I.base.free b o (I.ok.bs b o e).1 (I.ok.bs b o e).2 (I.ok.noex b o e)⟩
theorem Inv.bk (I:Inv X pins σ H s):∀b o,X.base.get? b=some o→s.heap.get? b=some o:=fun b o e=>(I.bs b o e).1
theorem Inv.mod (I:Inv X pins σ H s):Mod X.K X.mg X.base:=I.ok.mod
theorem Inv.kIn (I:Inv X pins σ H s):X.K.In s.heap:=I.ok.mod.kin.keeps I.bk
theorem Inv.lt (I:Inv X pins σ H s):X.env.locals<s.heap.objs.size:=let ⟨_,hn,_⟩:=I.loc;hn.lt
theorem Inv.sz (I:Inv X pins σ H s):X.s₀.heap.objs.size≤s.heap.objs.size:=Nat.le_trans I.ok.above (Nat.le_of_lt I.lt)
theorem Inv.nofs (I:Inv X pins σ H s) {a:Addr} (h:s.heap.objs.size≤a):a∉X.fs:=fun hb=>by
  obtain ⟨_,o,ho,_⟩:=I.ok.funs.mem hb
  exact absurd (Nat.lt_of_lt_of_le (Heap.lt_size ho) (Nat.le_trans I.sz h)) (Nat.lt_irrefl _)
theorem Inv.cne (I:Inv X pins σ H s):∀x c,X.env.cells.lookup x=some c→c≠X.env.locals:=fun x c e z=>by
  obtain ⟨v,o,ho,hd⟩:=I.cell x c e
  obtain ⟨m,⟨o',es,ep,ho',hd',_⟩,_⟩:=I.loc
  rw [z,ho'] at ho;cases ho;rw [hd'] at hd;cases hd
theorem Inv.funs (I:Inv X pins σ H s):s.heap.FunFrames X.base X.outer:=by
  have all:∀(l:List Env),(∀b∈frs l,b∈X.fs)→X.s₀.heap.FunFrames X.base l→s.heap.FunFrames X.base l:=by
    intro l
    induction l with
    | nil=>intro _ _;trivial
    | cons env r ih =>
      intro hs hl
      obtain ⟨hk,⟨L,o,hf,hn,ho,hd⟩,hr⟩:=hl
      have hL:L∈X.fs:=hs L (by unfold frs;rw [List.filterMap_cons,hf];exact List.mem_cons_self)
      obtain ⟨sl,e⟩:=I.base.slot L o ho (I.ok.frf L hL) hL fun z=>I.ok.exfs L z hL
      exact ⟨hk,⟨L,_,hf,hn,e,hd⟩,ih (fun b hb=>hs b (by unfold frs;rw [List.filterMap_cons,hf];exact List.mem_cons_of_mem _ hb)) hr⟩
  exact all X.outer (fun _ hb=>hb) I.ok.funs
theorem Inv.stack (I:Inv X pins σ H s):s.heap.FunFrames X.base X.stack:=by
  rcases I.ok.stk with e | ⟨e,hf⟩
  · rw [e];exact I.funs
  · rw [e]
    obtain ⟨m,hn,_⟩:=I.loc
    refine .cons (by rw [I.ok.kind];decide) hf hn ?_ I.funs
    exact Heap.get?_none_of_le (Nat.le_trans I.ok.bsz I.ok.above)
theorem Inv.stkSub (I:Inv X pins σ H s):∀b∈frs X.stack,b∈X.env.locals::X.fs:=fun b hb=>by
  rcases I.ok.stk with e | ⟨e,hf⟩
  · rw [e] at hb;exact List.mem_cons_of_mem _ hb
  · rw [e] at hb
    unfold frs at hb
    rw [List.filterMap_cons,hf] at hb
    exact hb
theorem Inv.stkFree (I:Inv X pins σ H s):∀b∈frs X.stack,H b=none:=fun b hb=>by
  rcases List.mem_cons.mp (I.stkSub b hb) with e|hb
  · rw [e];exact I.free
  · obtain ⟨_,o,ho,_⟩:=I.ok.funs.mem hb
    exact I.base.free b o ho (I.ok.frf b hb) fun z=>I.ok.exfs b z hb
theorem Inv.step {g':Array GenState} {t':Nat} {d':Drawn} {ch:List Addr} (I:Inv X pins σ H s)
    (hch:∀b∈ch,(b∈X.ex∨X.s₀.heap.objs.size≤b)∧b≠X.env.locals∧(∀x c,X.env.cells.lookup x=some c→c≠b)∧∀p∈X.pn++pins,p.1≠b)
    (keep:∀b o,b≠X.env.locals→b∉X.fs→b∉ch→s.heap.get? b=some o→H b=none→h'.get? b=some o)
    (slot:∀b o,b≠X.env.locals→b∈X.fs→b∉ch→s.heap.get? b=some o→H b=none→∃sl,h'.get? b=some { o with slots:=sl }) (free:∀b o,b∉ch→s.heap.get? b=some o→H b=none→H' b=none)
    (there:∀b o,b∉ch→s.heap.get? b=some o→∃o',h'.get? b=some o')
    (tups:∀b xs,H b=some (.tup xs)→H' b=some (.tup xs)) (frzs:∀b o u,H b=some (.frz o u)→H' b=some (.frz o u)) (tbls:∀b ps,H b=some (.tbl ps)→∃more,H' b=some (.tbl (ps++more)))
    (ns:∀m,s.heap.Ns X.env.locals m→h'.Ns X.env.locals m) (hok:HOk X.prog X.w H' h') (hg:AllBare g') :
    Inv X pins σ H' { s with heap:=h',gens:=g',drawn:=d',toks:=t' }:=by
  have neL:∀b o,X.s₀.heap.get? b=some o→b≠X.env.locals:=fun b o e=>Nat.ne_of_lt (Nat.lt_of_lt_of_le (Heap.lt_size e) I.ok.above)
  have neC:∀b o,X.s₀.heap.get? b=some o→b∉X.ex→b∉ch:=fun b o e hx hb=>by
    rcases (hch b hb).1 with z|z
    · exact hx z
    · exact absurd (Nat.lt_of_lt_of_le (Heap.lt_size e) z) (Nat.lt_irrefl _)
  have cellK:∀x c,X.env.cells.lookup x=some c→∀v,s.heap.IsCell c v→h'.IsCell c v:=fun x c e v ⟨o,ho,hd⟩=>by
    have nch:c∉ch:=fun z=>(hch c z).2.2.1 x c e rfl
    by_cases hc:c∈X.fs
    · obtain ⟨sl,q⟩:=slot c o (I.cne x c e) hc nch ho (I.freeC x c e)
      exact ⟨_,q,hd⟩
    · exact ⟨o,keep c o (I.cne x c e) hc nch ho (I.freeC x c e),hd⟩
  refine ⟨I.ok,I.os,hg,⟨fun b o e n hb hx=>?_,fun b o e n hb hx=>?_,fun b o e n hx=>?_,fun b o e hx=>?_,fun b xs e=>tups b xs (I.base.tups b xs e),fun b o xs e=>frzs b o xs (I.base.frzs b o xs e),fun b ps e=>?_⟩,?_,fun x c e=>?_,?_,fun x c e=>?_,fun p hp=>?_,hok,I.len⟩
  · exact keep b o (neL b o e) hb (neC b o e hx) (I.base.keep b o e n hb hx) (I.base.free b o e n hx)
  · obtain ⟨sl,e1⟩:=I.base.slot b o e n hb hx
    obtain ⟨sl',e2⟩:=slot b _ (neL b o e) hb (neC b o e hx) e1 (I.base.free b o e n hx)
    exact ⟨sl',e2⟩
  · obtain ⟨o',e1⟩:=I.base.there b o e hx
    exact free b o' (neC b o e hx) e1 (I.base.free b o e n hx)
  · obtain ⟨o',e1⟩:=I.base.there b o e hx
    exact there b o' (neC b o e hx) e1
  · obtain ⟨m1,e1⟩:=I.base.tbls b ps e
    obtain ⟨m2,e2⟩:=tbls b _ e1
    exact ⟨m1++m2,by rw [e2,Array.append_assoc]⟩
  · obtain ⟨m,hn,hl⟩:=I.loc
    refine ⟨m,ns m hn,fun i x v e1 e2 e3=>?_⟩
    obtain ⟨u,r,l⟩:=hl i x v e1 e2 e3
    refine ⟨u,r,?_⟩
    rcases l with l | ⟨k,c,e,z⟩
    · exact .inl l
    · exact .inr ⟨k,c,e,cellK x c e _ z⟩
  · obtain ⟨v,z⟩:=I.cell x c e
    exact ⟨v,cellK x c e v z⟩
  · obtain ⟨m,⟨o,_,_,ho,_⟩,_⟩:=I.loc
    exact free _ o (fun z=>(hch _ z).2.1 rfl) ho I.free
  · obtain ⟨v,o,ho,hd⟩:=I.cell x c e
    exact free c o (fun z=>(hch c z).2.2.1 x c e rfl) ho (I.freeC x c e)
  · obtain ⟨e,n,ne,nf,d⟩:=I.pin p hp
    have nch:p.1∉ch:=fun z=>(hch p.1 z).2.2.2 p hp rfl
    exact ⟨keep p.1 p.2 ne nf nch e n,free p.1 p.2 nch e n,ne,nf,d⟩
theorem Inv.un {t':Nat} (I:Inv X pins σ H s) (u:Un X.fs [] H H' s.heap h') (hok:HOk X.prog X.w H' h'):Inv X pins σ H' { s with heap:=h',toks:=t' }:=by
  obtain ⟨m,⟨o,es,ep,ho,r⟩,_⟩:=id I.loc
  obtain ⟨sl,hL⟩:=u.any ho I.free (by simp)
  exact I.step (g':=s.gens) (d':=s.drawn) (ch:=[]) (fun _ z=>nomatch z) (fun b o _ hb _ e n=>u.keep b o e n hb (by simp)) (fun b o _ hb _ e n=>u.slot b o e n hb (by simp)) (fun b o _ e n=>u.free b o e n (by simp)) (fun b o _ e=>u.there b o e (by simp)) u.tups u.frzs u.tbls (fun m' hm=>by
    obtain ⟨o',es',ep',ho',r'⟩:=hm
    rw [ho] at ho';cases ho'
    exact ⟨_,es',ep',hL,r'⟩) hok I.bare
theorem Inv.call {g':Array GenState} {t':Nat} {d':Drawn} {ch:List Addr} (I:Inv X pins σ H s) (u:Un (frs X.stack) ch H H' s.heap h') (hok:HOk X.prog X.w H' h') (hg:AllBare g')
    (hch:∀b∈ch,(b∈X.ex∨X.s₀.heap.objs.size≤b)∧b≠X.env.locals∧(∀x c,X.env.cells.lookup x=some c→c≠b)∧∀p∈X.pn++pins,p.1≠b) :
    Inv X pins σ H' { s with heap:=h',gens:=g',drawn:=d',toks:=t' }:=by
  obtain ⟨m,⟨o,es,ep,ho,r⟩,_⟩:=id I.loc
  obtain ⟨sl,hL⟩:=u.any ho I.free fun z=>(hch _ z).2.1 rfl
  exact I.step (ch:=ch) hch (fun b o hL hb hc e n=>u.keep b o e n (fun z=>(List.mem_cons.mp (I.stkSub b z)).elim hL hb) hc) (fun b o _ _ hc e n=>u.any e n hc) (fun b o hc e n=>u.free b o e n hc) (fun b o hc e=>u.there b o e hc) u.tups u.frzs u.tbls (fun m' hm=>by
    obtain ⟨o',es',ep',ho',r'⟩:=hm
    rw [ho] at ho';cases ho'
    exact ⟨_,es',ep',hL,r'⟩) hok hg
theorem Inv.turned {t':Nat} {it:Addr} (I:Inv X pins σ H s) (k:∀b o,b≠it→s.heap.get? b=some o→h'.get? b=some o) (hn:H it=none) (hL:it≠X.env.locals)
    (h1:it∈X.ex∨X.s₀.heap.objs.size≤it) (h2:∀x c,X.env.cells.lookup x=some c→c≠it) (h3:∀p∈X.pn++pins,p.1≠it):Inv X pins σ H { s with heap:=h',toks:=t' }:=by
  have nit:∀b u,H b=some u→b≠it:=fun b u e z=>by rw [z,hn] at e;cases e
  refine I.step (g':=s.gens) (d':=s.drawn) (ch:=[it]) (fun b hb=>?_) (fun b o _ _ hc e _=>k b o (fun z=>hc (by simp [z])) e) (fun b o _ _ hc e _=>⟨o.slots,k b o (fun z=>hc (by simp [z])) e⟩) (fun _ _ _ _ n=>n)
    (fun b o hc e=>⟨o,k b o (fun z=>hc (by simp [z])) e⟩) (fun _ _ e=>e) (fun _ _ _ e=>e) (fun b ps e=>⟨#[],by rw [e];simp⟩) (fun m hm=>?_) (fun b u e=>?_) I.bare
  · have e:b=it:=by simpa using hb
    subst e
    exact ⟨h1,hL,h2,h3⟩
  · obtain ⟨o,es,ep,ho,r⟩:=hm
    exact ⟨o,es,ep,k _ o (Ne.symm hL) ho,r⟩
  · refine (I.hok b u e).stay (fun c v hc q=>k c v ?_ q) (fun _ q=>q) fun _ _ q=>q
    rcases hc with z|z
    · rw [z];exact nit b u e
    · exact nit c _ z
theorem Inv.tok (I:Inv X pins σ H s) (t:Nat):Inv X pins σ H { s with toks:=t }:=I.un (h':=s.heap) (t':=t) Un.refl I.hok
theorem Inv.kept {t':Nat} (I:Inv X pins σ H s) (k:∀b u,s.heap.get? b=some u→h'.get? b=some u):Inv X pins σ H { s with heap:=h',toks:=t' }:=I.un (Un.kept k) (I.hok.kept k)
theorem Inv.laid {a:Addr} {o:HO} {t':Nat} (I:Inv X pins σ H s) (k:∀b u,s.heap.get? b=some u→h'.get? b=some u) (hp:s.heap.objs.size≤a) (new:zaW X.prog X.w (upd H a o) h' a o) :
    Inv X pins σ (upd H a o) { s with heap:=h',toks:=t' }:=I.un (Un.laid k hp (I.hok.fresh hp)) (I.hok.laid k hp new)
theorem Inv.write {x e:Addr} {o:HO} {t':Nat} (I:Inv X pins σ H s) (mu:Mut (H x)) (he:e=x∨H e=some (.own x)) (k:∀b u,b≠e→s.heap.get? b=some u→h'.get? b=some u) (heo:∃u,h'.get? e=some u)
    (new:zaW X.prog X.w (upd H x o) h' x o):Inv X pins σ (upd H x o) { s with heap:=h',toks:=t' }:=I.un (Un.write mu he k heo) (I.hok.write mu he k heo new)
theorem Inv.pins_of {pins':List (Addr×Obj)} (I:Inv X pins σ H s) (h:∀p∈pins',s.heap.get? p.1=some p.2∧H p.1=none∧p.1≠X.env.locals∧p.1∉X.fs∧∀v,p.2.data≠.cell v):Inv X pins' σ H s :=
  ⟨I.ok,I.os,I.bare,I.base,I.loc,I.cell,I.free,I.freeC,fun p hp=>(List.mem_append.mp hp).elim (fun z=>I.pin p (List.mem_append_left _ z)) (h p),I.hok,I.len⟩
theorem yde {N:List Str} (hN:N.Nodup) {i j:Nat} {x:Str} (a:N[i]?=some x) (b:N[j]?=some x):i=j:=by
  obtain ⟨h1,e1⟩:=List.getElem?_eq_some_iff.mp a
  obtain ⟨h2,e2⟩:=List.getElem?_eq_some_iff.mp b
  exact (List.getElem_inj hN).mp (e1.trans e2.symm)
theorem zdy {M:Model} {A:Around} {E:Value→Shared→Prop} {i:Nat} {x:Str} {v:V} {u:Value} {Q:Unit→Shared→Prop} (I:Inv X pins σ H s) (hN:X.N.Nodup) (hi:X.N[i]?=some x) (hx:Loc X.env.scope x) (r:RelV v u)
    (h:∀s',Inv X pins (σ.set i (some v)) H s'→(∃a,Heap.SameBut a s.heap s'.heap∧(a=X.env.locals∨X.env.cells.lookup x=some a))→Q () s') (hf:X.fn x=true∨X.env.scope.names.lookup x=some .local:=by first|exact .inl rfl|exact .inr rfl|assumption):wpAny M A (storeName X.env x u) Q E s:=by
  obtain ⟨m,hn,hl⟩:=id I.loc
  have hcls:(X.env.scope.kind==.class||(X.env.scope.kind==.module&&X.env.locals != X.env.globals))=false:=by rw [I.ok.kind];rfl
  have hiσ:i < σ.length:=by rw [I.len];exact (List.getElem?_eq_some_iff.mp hi).1
  have cne:=I.cne
  have tracked:∀ {a:Addr} {h':Heap},(∃o,s.heap.get? a=some o∧H a=none)→Heap.SameBut a s.heap h'→HOk X.prog X.w H h':=fun {a h'} ha hs b ob e=>by
    obtain ⟨_,_,hfree⟩:=ha
    refine (I.hok b ob e).stay (fun c w' hc q=>(hs.2 c ?_).trans q) (fun _ q=>q) fun _ _ q=>q
    rintro rfl
    rcases hc with rfl|hc
    · rw [hfree] at e;cases e
    · rw [hfree] at hc;cases hc
  rcases hx with hk|hk
  · refine wpAny_storeName_local hk hn (fun h' hn' hs=>?_) hcls
    obtain ⟨oL,_,_,hoL,_⟩:=id hn
    refine h _ ⟨I.ok,I.os,I.bare,⟨fun b o e n hb hx=>?_,fun b o e n hb hx=>?_,I.base.free,fun b o e hx=>?_,I.base.tups,I.base.frzs,I.base.tbls⟩,⟨_,hn',fun j y v' e1 e2 e3=>?_⟩,fun y c e=>?_,I.free,I.freeC,fun p hp=>?_,tracked ⟨oL,hoL,I.free⟩ hs,by simpa using I.len⟩ ⟨_,hs,.inl rfl⟩
    · exact (hs.2 b (Nat.ne_of_lt (Nat.lt_of_lt_of_le (Heap.lt_size e) I.ok.above))).trans (I.base.keep b o e n hb hx)
    · obtain ⟨sl,e1⟩:=I.base.slot b o e n hb hx
      exact ⟨sl,(hs.2 b (Nat.ne_of_lt (Nat.lt_of_lt_of_le (Heap.lt_size e) I.ok.above))).trans e1⟩
    · obtain ⟨o',e1⟩:=I.base.there b o e hx
      exact ⟨o',(hs.2 b (Nat.ne_of_lt (Nat.lt_of_lt_of_le (Heap.lt_size e) I.ok.above))).trans e1⟩
    · by_cases hj:j=i
      · subst hj
        rw [hi] at e1;cases e1
        rw [List.getElem?_set_self hiσ] at e2
        cases e2
        exact ⟨u,r,.inl ⟨hk,by simp⟩⟩
      · rw [List.getElem?_set_ne (Ne.symm hj)] at e2
        obtain ⟨u',r',q⟩:=hl j y v' e1 e2 e3
        refine ⟨u',r',?_⟩
        rcases q with ⟨k,e⟩ | ⟨k,c,e,z⟩
        · refine .inl ⟨k,?_⟩
          have:y≠x:=fun e=>hj (yde hN e1 (e ▸ hi))
          simp [this,e]
        · exact .inr ⟨k,c,e,z.sameBut hs (cne y c e)⟩
    · obtain ⟨w',z⟩:=I.cell y c e
      exact ⟨w',z.sameBut hs (cne y c e)⟩
    · obtain ⟨e,n,ne,nf,d⟩:=I.pin p hp
      exact ⟨(hs.2 p.1 ne).trans e,n,ne,nf,d⟩
  · have hfn:X.fn x=true:=by
      rcases hf with z|z
      · exact z
      · rw [z] at hk;cases hk
    obtain ⟨c,hc⟩:=I.ok.has x (.inl hk)
    obtain ⟨w',z⟩:=I.cell x c hc
    refine wpAny_storeName_cell I.ok.kind hk hc z (fun h' hc' hs=>?_)
    obtain ⟨oc,hoc,hocd⟩:=id z
    refine h { s with heap:=h' } ⟨I.ok,I.os,I.bare,⟨fun b o e n hb hx=>?_,fun b o e n hb hx=>?_,I.base.free,fun b o e hx=>?_,I.base.tups,I.base.frzs,I.base.tbls⟩,⟨m,hn.sameBut hs (Ne.symm (cne x c hc)),fun j y v' e1 e2 e3=>?_⟩,fun y c' e=>?_,I.free,I.freeC,fun p hp=>?_,tracked ⟨oc,hoc,I.freeC x c hc⟩ hs,by simpa using I.len⟩ ⟨c,hs,.inr hc⟩
    · exact (hs.2 b (Nat.ne_of_lt (Nat.lt_of_lt_of_le (Heap.lt_size e) (I.ok.cab x c hfn hc)))).trans (I.base.keep b o e n hb hx)
    · obtain ⟨sl,e1⟩:=I.base.slot b o e n hb hx
      exact ⟨sl,(hs.2 b (Nat.ne_of_lt (Nat.lt_of_lt_of_le (Heap.lt_size e) (I.ok.cab x c hfn hc)))).trans e1⟩
    · obtain ⟨o',e1⟩:=I.base.there b o e hx
      exact ⟨o',(hs.2 b (Nat.ne_of_lt (Nat.lt_of_lt_of_le (Heap.lt_size e) (I.ok.cab x c hfn hc)))).trans e1⟩
    · by_cases hj:j=i
      · subst hj
        rw [hi] at e1;cases e1
        rw [List.getElem?_set_self hiσ] at e2
        cases e2
        exact ⟨u,r,.inr ⟨.inl hk,c,hc,hc'⟩⟩
      · rw [List.getElem?_set_ne (Ne.symm hj)] at e2
        obtain ⟨u',r',q⟩:=hl j y v' e1 e2 e3
        refine ⟨u',r',?_⟩
        rcases q with q | ⟨k,c',e,z'⟩
        · exact .inl q
        · refine .inr ⟨k,c',e,z'.sameBut hs ?_⟩
          rintro rfl
          exact hj (yde hN e1 (I.ok.inj _ _ _ e hc ▸ hi))
    · by_cases hcc:c'=c
      · subst hcc;exact ⟨_,hc'⟩
      · obtain ⟨w2,z2⟩:=I.cell y c' e
        exact ⟨w2,z2.sameBut hs hcc⟩
    · obtain ⟨e,n,ne,nf,d⟩:=I.pin p hp
      refine ⟨(hs.2 p.1 ?_).trans e,n,ne,nf,d⟩
      intro q
      rw [q,hoc] at e
      have q':oc=p.2:=Option.some.inj e
      exact d w' (by rw [←q'];exact hocd)
theorem zaY {M:Model} {A:Around} {E:Value→Shared→Prop} {i:Nat} {x:Str} {v:V} {u:Value} {Q:Unit→Shared→Prop} (I:Inv X pins σ H s) (hN:X.N.Nodup) (hi:X.N[i]?=some x) (hx:Loc X.env.scope x) (r:RelV v u)
    (h:∀s',Inv X pins (σ.set i (some v)) H s'→Q () s') (hf:X.fn x=true∨X.env.scope.names.lookup x=some .local:=by first|exact .inl rfl|exact .inr rfl|assumption):wpAny M A (storeName X.env x u) Q E s :=
  zdy I hN hi hx r (fun s' I' _=>h s' I') hf
theorem Inv.call' {s':Shared} {ch:List Addr} (I:Inv X pins σ H s) (ho:s'.os=s.os) (u:Un (frs X.stack) ch H H' s.heap s'.heap) (hok:HOk X.prog X.w H' s'.heap) (hg:AllBare s'.gens)
    (hch:∀b∈ch,(b∈X.ex∨X.s₀.heap.objs.size≤b)∧b≠X.env.locals∧(∀x c,X.env.cells.lookup x=some c→c≠b)∧∀p∈X.pn++pins,p.1≠b):Inv X pins σ H' s':=by
  obtain ⟨h',g',d',t',o'⟩:=s'
  have e:o'=s.os:=ho
  subst e
  exact I.call (g':=g') (t':=t') (d':=d') u hok hg hch
end
abbrev XK:=Value→Option Addr→Hp→Prop
abbrev St:=List (Option V)
abbrev VK:=V→Hp→Prop
abbrev TE:=St→Hp→VK→Prop
abbrev TT:=St→Hp→(Bool→Hp→Prop)→Prop
abbrev TA:=St→Hp→(List V→Hp→Prop)→Prop
structure Ends where
  nx:St→Hp→Prop
  rt:VK
  bk:St→Hp→Prop:=fun _ _=>False
  ct:St→Hp→Prop:=fun _ _=>False
abbrev TS:=Ends→St→Hp→Prop
def EP (X:Cx) (pins:List (Addr×Obj)) (σ:St) (Q:VK) (u:Value) (s':Shared):Prop:=∃v H',Inv X pins σ H' s'∧RelV v u∧Q v H'
def TP (X:Cx) (pins:List (Addr×Obj)) (σ:St) (Q:Bool→Hp→Prop) (b:Bool) (s':Shared):Prop:=∃H',Inv X pins σ H' s'∧Q b H'
def AP (X:Cx) (pins:List (Addr×Obj)) (σ:St) (Q:List V→Hp→Prop) (us:List Value) (s':Shared):Prop:=∃vs H',Inv X pins σ H' s'∧Vals vs us∧Q vs H'
def SP (X:Cx) (pins:List (Addr×Obj)) (D:Ends) (f:Flow) (s':Shared):Prop :=
  match f with
  | .next=>∃σ' H',Inv X pins σ' H' s'∧D.nx σ' H'
  | .brk=>∃σ' H',Inv X pins σ' H' s'∧D.bk σ' H'
  | .cont=>∃σ' H',Inv X pins σ' H' s'∧D.ct σ' H'
  | .ret u=>∃v σ' H',Inv X pins σ' H' s'∧RelV v u∧D.rt v H'
def PE (X:Cx) (e:Expr) (t:TE):Prop :=
  ∀(pins:List (Addr×Obj)) (s:Shared) (σ:St) (H:Hp) (Q:VK),Inv X pins σ H s→t σ H Q→wpAny (model X.prog X.w) X.A (eval e X.env) (EP X pins σ Q) X.xe s
def PT (X:Cx) (e:Expr) (t:TT):Prop :=
  ∀(pins:List (Addr×Obj)) (s:Shared) (σ:St) (H:Hp) (Q:Bool→Hp→Prop),Inv X pins σ H s→t σ H Q→wpAny (model X.prog X.w) X.A (isTrue e X.env (eval e X.env)) (TP X pins σ Q) X.xe s
def PW (X:Cx) (e:Expr) (t:TT):Prop :=
  ∀(whole:Sem Value) (pins:List (Addr×Obj)) (s:Shared) (σ:St) (H:Hp) (Q:Bool→Hp→Prop),Inv X pins σ H s→t σ H Q→wpAny (model X.prog X.w) X.A (isTrue e X.env whole) (TP X pins σ Q) X.xe s
theorem PW.pt {X:Cx} {e:Expr} {t:TT} (h:PW X e t):PT X e t:=h _
def PA (X:Cx) (es:List Expr) (t:TA):Prop :=
  ∀(pos:Pos) (pins:List (Addr×Obj)) (s:Shared) (σ:St) (H:Hp) (Q:List V→Hp→Prop),Inv X pins σ H s→t σ H Q→wpAny (model X.prog X.w) X.A (spliced (backTo pos (starEach es X.env))) (AP X pins σ Q) X.xe s
def PS (X:Cx) (st:Stmt) (t:TS):Prop :=
  ∀(pins:List (Addr×Obj)) (s:Shared) (σ:St) (H:Hp) (D:Ends),Inv X pins σ H s→t D σ H→wpAny (model X.prog X.w) X.A (exec st X.env) (SP X pins D) X.xe s
def PSs (X:Cx) (st:List Stmt) (t:TS):Prop :=
  ∀(pins:List (Addr×Obj)) (s:Shared) (σ:St) (H:Hp) (D:Ends),Inv X pins σ H s→t D σ H→wpAny (model X.prog X.w) X.A (execs st X.env) (SP X pins D) X.xe s
theorem thn {α:Type} {t:Sem α} {Q Q':α→Shared→Prop} {M:Model} {A:Around} {E:Value→Shared→Prop} {s:Shared} (h:wpAny M A t Q E s) (hQ:∀a s,Q a s→Q' a s):wpAny M A t Q' E s:=wpAny_mono h hQ fun _ _ x=>x
end L2
namespace L2
open PySem PySem.Spec PyProof.Rows
section
variable {X:Cx}
theorem bin {a b:Expr} {ta tb:TE} (ha:PE X a ta) (hb:PE X b tb) {pins:List (Addr×Obj)} {s:Shared} {σ:St} {H:Hp} {R:V→V→Hp→Prop} (I:Inv X pins σ H s) (h:ta σ H fun x H1=>tb σ H1 fun y H2=>R x y H2)
    {α:Type} {Q:α→Shared→Prop} {f:Value→Value→Sem α}
    (hf:∀v u s2 x y H2,Inv X pins σ H2 s2→RelV x v→RelV y u→R x y H2→wpAny (model X.prog X.w) X.A (f v u) Q X.xe s2) :
    wpAny (model X.prog X.w) X.A (eval a X.env) (fun v s₁=>wpAny (model X.prog X.w) X.A (eval b X.env) (fun u s₂=>wpAny (model X.prog X.w) X.A (f v u) Q X.xe s₂) X.xe s₁) X.xe s:=by
  refine thn (ha pins s σ H _ I h) fun v s1 ⟨x,H1,I1,r1,q1⟩=>?_
  refine thn (hb pins s1 σ H1 _ I1 q1) fun u s2 ⟨y,H2,I2,r2,q2⟩=>?_
  exact hf v u s2 x y H2 I2 r1 r2 q2
def tVar (i:Nat):TE:=fun σ H Q=>∃v,σ[i]?=some (some v)∧Q v H
def tC (v:V):TE:=fun _ H Q=>Q v H
theorem zgV {i:Nat} {x:Str} {pos:Pos} (hN:X.N[i]?=some x) (hv:Vis X.env.scope x) (hd:(x==("__debug__":Str))=false:=by decide) (hcd:(x==("__classdict__":Str))=false:=by decide):PE X (.Name x pos) (tVar i):=by
  intro pins s σ H Q I h
  obtain ⟨v,e,h⟩:=h
  obtain ⟨m,hn,hl⟩:=I.loc
  obtain ⟨u,r,l⟩:=hl i x v hN e hv
  have fin:EP X pins σ Q u s:=⟨v,H,I,r,h⟩
  rcases l with ⟨hk,hm⟩ | ⟨hk,c,hc,hcell⟩
  · exact wpAny_Name (wpAny_loadName_local I.ok.kind hk hn hm fin) hd
  · rcases hk with hk|hk
    · exact wpAny_Name (wpAny_loadName_cell I.ok.kind hk hc hcell fin) hd
    · exact wpAny_Name (wpAny_loadName_free I.ok.kind hk hc hcell fin hcd) hd
theorem yac {i j pos}:PE X (.Constant (.int i) j pos) (tC (.int i)):=fun _ _ _ H _ I h=>wpAny_Constant_int ⟨.int i,H,I.tok _,⟨_,rfl⟩,h⟩
theorem zf2 {b j pos}:PE X (.Constant (.bool b) j pos) (tC (.bl b)):=fun _ _ _ H _ I h=>Constant_bool ⟨.bl b,H,I,rfl,h⟩
theorem yaK {x j pos}:PE X (.Constant (.str x) j pos) (tC (.str x)):=fun _ _ _ H _ I h=>Calls.Constant_str ⟨.str x,H,I.tok _,⟨_,rfl⟩,h⟩
def Gl (X:Cx) (x:Str):Prop:=X.env.kindOf x=some .globalImplicit
theorem zct {E:Value→Shared→Prop} {pins:List (Addr×Obj)} {s:Shared} {σ:St} {H:Hp} {x:Str} {u:Value} {pos:Pos} {Q:Value→Shared→Prop} (I:Inv X pins σ H s) (hg:Gl X x) (hm:X.mg x=some u) (h:Q u s)
    (hd:(x==("__debug__":Str))=false:=by decide):wpAny (model X.prog X.w) X.A (eval (.Name x pos) X.env) Q E s :=
  Calls.Name_function_global I.ok.kind hg (Calls.loadGlobal_global (by rw [I.ok.glob];exact I.mod.glob.keeps I.bk) hm h) hd
theorem ybu {E:Value→Shared→Prop} {pins:List (Addr×Obj)} {s:Shared} {σ:St} {H:Hp} {x:Str} {u:Value} {pos:Pos} {Q:Value→Shared→Prop} (I:Inv X pins σ H s) (hg:Gl X x) (hm:X.mg x=none) (hv:bootBuiltins x=some u) (h:Q u s)
    (hn:x≠"__name__":=by decide) (hd:(x==("__debug__":Str))=false:=by decide):wpAny (model X.prog X.w) X.A (eval (.Name x pos) X.env) Q E s:=by
  obtain ⟨mb,h1,h2⟩:=I.mod.blt
  exact Calls.Name_function_global I.ok.kind hg (Calls.loadGlobal_builtin (by rw [I.ok.glob];exact I.mod.glob.keeps I.bk) hm (by rw [I.ok.blt];exact h1.keeps I.bk) ((h2 x hn).trans hv) h) hd
theorem zbW {x:Str} {v:V} {u:Value} {pos:Pos} (hg:Gl X x) (hm:X.mg x=some u) (r:RelV v u) (hd:(x==("__debug__":Str))=false:=by decide):PE X (.Name x pos) (tC v) :=
  fun _ _ _ H _ I h=>zct I hg hm ⟨v,H,I,r,h⟩ hd
theorem ygj {x:Str} {v:V} {u:Value} {pos:Pos} (hg:Gl X x) (hm:X.mg x=none) (hv:bootBuiltins x=some u) (r:RelV v u) (hn:x≠"__name__":=by decide) (hd:(x==("__debug__":Str))=false:=by decide):PE X (.Name x pos) (tC v) :=
  fun _ _ _ H _ I h=>ybu I hg hm hv ⟨v,H,I,r,h⟩ hn hd
def t2I (ta tb:TE) (k:Int→Int→Hp→Prop):St→Hp→Prop:=fun σ H=>ta σ H fun x H1=>tb σ H1 fun y H2=>∃i j,x = .int i∧y = .int j∧k i j H2
variable {a b:Expr} {ta tb:TE} {pos:Pos}
def PC (X:Cx) (op:CmpOp) (a b:Expr) (t:TE):Prop :=
  ∀(pins:List (Addr×Obj)) (s:Shared) (σ:St) (H:Hp) (Q:VK),Inv X pins σ H s→t σ H Q→
    wpAny (model X.prog X.w) X.A (eval a X.env) (fun v s₁=>wpAny (model X.prog X.w) X.A (eval b X.env) (fun u s₂=>wpAny (model X.prog X.w) X.A (compareOp op v u) (EP X pins σ Q) X.xe s₂) X.xe s₁) X.xe s
def tCmp (p:Int→Int→Bool) (ta tb:TE):TE:=fun σ H Q=>t2I ta tb (fun i j H2=>Q (.bl (p i j)) H2) σ H
abbrev tLt:TE→TE→TE:=tCmp fun i j=>decide (i<j)
abbrev tLe:TE→TE→TE:=tCmp fun i j=>decide (i≤j)
abbrev tGt:TE→TE→TE:=tCmp fun i j=>decide (j<i)
abbrev tGe:TE→TE→TE:=tCmp fun i j=>decide (j≤i)
abbrev tEqI:TE→TE→TE:=tCmp fun i j=>decide (i=j)
abbrev tNeI:TE→TE→TE:=tCmp fun i j=>!decide (i=j)
def tB (t:TE):TT:=fun σ H Q=>t σ H fun x H1=>∃c,x = .bl c∧Q c H1
theorem pt_cmp {op:CmpOp} {t:TE} (h:PC X op a b t) (h1:behindInMarks op b=false:=by first|exact nobehind _ (by decide) (by decide)|rfl):PT X (.Compare a [op] [b] pos) (tB t):=by
  intro pins s σ H Q I hw
  refine wpAny_isTrue_Compare1 (thn (h pins s σ H _ I hw) fun v s1 h1=>thn h1 fun u s2 h2=>thn h2 fun c s3 ⟨x,H1,I1,r1,q1⟩=>?_) h1
  obtain ⟨d,rfl,q⟩:=q1
  cases r1
  exact wpAny_truthy_bool ⟨H1,I1,q⟩
theorem yf4 {e:Expr} {t:TE} (h:PE X e t) (he:∀whole,isTrue e X.env whole=(do let v ←whole;standAt e.pos;holding [v] (truthy v)):=by intro _;rfl):PT X e (tB t):=by
  intro pins s σ H Q I hw
  refine isTrue_plain (thn (h pins s σ H _ I hw) fun v s1 ⟨x,H1,I1,r1,q1⟩=>?_) (he _)
  obtain ⟨d,rfl,q⟩:=q1
  cases r1
  exact wpAny_truthy_bool ⟨H1,I1,q⟩
variable {tA tB':TT} {rest:List Expr}
def tAnd (t u:TT):TT:=fun σ H Q=>t σ H fun c H1=>if c=true then u σ H1 Q else Q false H1
def tOr (t u:TT):TT:=fun σ H Q=>t σ H fun c H1=>if c=true then Q true H1 else u σ H1 Q
def tNot (t:TT):TT:=fun σ H Q=>t σ H fun c H1=>Q (!c) H1
theorem ye9 (ha:PT X a tA):PW X (.BoolOp .And [a] pos) tA:=by
  intro wh pins s σ H Q I h
  refine isTrue_and (thn (ha pins s σ H Q I h) fun c s1 e=>?_)
  cases c with
  | true=>exact isTrue_and_nil e
  | false=>exact e
theorem zdt (ha:PT X a tA):PW X (.BoolOp .Or [a] pos) tA:=by
  intro wh pins s σ H Q I h
  refine isTrue_or (thn (ha pins s σ H Q I h) fun c s1 e=>?_)
  cases c with
  | false=>exact isTrue_or_nil e
  | true=>exact e
theorem zf6 (ha:PT X a tA) (hb:PW X (.BoolOp .And (b::rest) pos) tB'):PW X (.BoolOp .And (a::b::rest) pos) (tAnd tA tB'):=by
  intro wh pins s σ H Q I h
  refine isTrue_and (thn (ha pins s σ H _ I h) fun c s1 ⟨H1,I1,q1⟩=>?_)
  cases c with
  | true=>exact hb wh pins s1 σ H1 Q I1 q1
  | false=>exact ⟨H1,I1,q1⟩
theorem zfk (ha:PT X a tA) (hb:PW X (.BoolOp .Or (b::rest) pos) tB'):PW X (.BoolOp .Or (a::b::rest) pos) (tOr tA tB'):=by
  intro wh pins s σ H Q I h
  refine isTrue_or (thn (ha pins s σ H _ I h) fun c s1 ⟨H1,I1,q1⟩=>?_)
  cases c with
  | true=>exact ⟨H1,I1,q1⟩
  | false=>exact hb wh pins s1 σ H1 Q I1 q1
theorem yg5 (ha:PT X a tA):PT X (.UnaryOp .Not a pos) (tNot tA):=by
  intro pins s σ H Q I h
  exact isTrue_not (ha pins s σ H (fun c H1=>Q (!c) H1) I h)
def yhh (ta tb:TE):TE:=fun σ H Q=>ta σ H fun x H1=>∃c,x = .bl c∧if c=true then tb σ H1 Q else Q (.bl false) H1
def yhp (ta:TE):TE:=fun σ H Q=>ta σ H fun x H1=>∃c,x = .bl c∧Q (.bl (!c)) H1
theorem zgX {op} {t:TE} (h:PE X a t):PE X (.BoolOp op [a] pos) t:=fun pins s σ H Q I hw=>BoolOp_one (h pins s σ H Q I hw)
theorem zge (ha:PE X a ta) (hb:PE X (.BoolOp .And (b::rest) pos) tb):PE X (.BoolOp .And (a::b::rest) pos) (yhh ta tb):=by
  intro pins s σ H Q I h
  refine BoolOp_and (thn (ha pins s σ H _ I h) fun v s1 ⟨x,H1,I1,r1,q1⟩=>?_)
  obtain ⟨c,rfl,q1⟩:=q1
  cases r1
  refine wpAny_truthy_bool ?_
  cases c with
  | true=>exact hb pins s1 σ H1 Q I1 q1
  | false=>exact ⟨.bl false,H1,I1,rfl,q1⟩
theorem zhe (ha:PE X a ta):PE X (.UnaryOp .Not a pos) (yhp ta):=by
  intro pins s σ H Q I h
  refine UnaryOp_ (thn (ha pins s σ H _ I h) fun v s1 ⟨x,H1,I1,r1,q1⟩=>?_)
  obtain ⟨c,rfl,q1⟩:=q1
  cases r1
  exact not_of (wpAny_truthy_bool ⟨.bl (!c),H1,I1,rfl,q1⟩)
def tIf (t:TT) (ta tb:TE):TE:=fun σ H Q=>t σ H fun c H1=>if c=true then ta σ H1 Q else tb σ H1 Q
theorem yf2 {c:Expr} (hc:PT X c tA) (ha:PE X a ta) (hb:PE X b tb):PE X (.IfExp c a b pos) (tIf tA ta tb):=by
  intro pins s σ H Q I h
  refine wpAny_IfExp (thn (hc pins s σ H _ I h) fun d s1 ⟨H1,I1,q1⟩=>?_)
  cases d with
  | true=>exact ha pins s1 σ H1 Q I1 q1
  | false=>exact hb pins s1 σ H1 Q I1 q1
end
end L2
namespace L2
open PySem PySem.Spec PyProof.Rows
def SqL (K:PySem.W.Frag) (H:Hp) (a:Addr) (xs:List V):Prop :=
  Rd H a (.lst xs)∨
    ∃(o:Obj) (its:Array Value) (n:Nat),K.lookup a=some o∧o.cls = .type "list"∧o.dict=none∧o.data = .seq its n∧its.size≤sizeLine∧Vals xs its.toList
def SqT (K:PySem.W.Frag) (H:Hp) (a:Addr) (xs:List V):Prop :=
  Rd H a (.tup xs)∨
    ∃(o:Obj) (its:Array Value) (n:Nat),K.lookup a=some o∧o.cls = .type "tuple"∧o.data = .seq its n∧its.size≤sizeLine∧Vals xs its.toList
def absV:Value→Option V
  | .none=>some .non
  | .bool b=>some (.bl b)
  | .int i _=>some (.int i)
  | .str x _=>some (.str x)
  | .bytes b _=>some (.byt b)
  | .float b _=>some (.flt b)
  | .ref a=>some (.ref a)
  | .type n=>some (.ty n)
  | _=>none
theorem RelV.abs {x:V} {u:Value} (r:RelV x u):absV u=some x:=by
  cases x with
  | non=>cases r;rfl
  | bl _=>cases r;rfl
  | int _=>obtain ⟨t,rfl⟩:=r;rfl
  | str _=>obtain ⟨t,rfl⟩:=r;rfl
  | byt _=>obtain ⟨t,rfl⟩:=r;rfl
  | flt _=>obtain ⟨t,rfl⟩:=r;rfl
  | ref _=>cases r;rfl
  | ty _=>cases r;rfl
theorem RelV.inj {x y:V} {u:Value} (r:RelV x u) (q:RelV y u):x=y:=Option.some.inj (r.abs.symm.trans q.abs)
theorem Vals.inj:∀ {xs ys:List V} {us:List Value},Vals xs us→Vals ys us→xs=ys
  | _,_,_,.nil,.nil=>rfl
  | _,_,_,.cons r t,.cons r' t'=>by rw [r.inj r',Vals.inj t t']
section
variable {X:Cx} {pins:List (Addr×Obj)} {σ:St} {H:Hp} {s:Shared} {a:Addr} {xs ys:List V}
theorem SqL.of {K:PySem.W.Frag} (h:H a=some (.lst xs)):SqL K H a xs:=.inl (.inl h)
theorem SqT.of {K:PySem.W.Frag} (h:H a=some (.tup xs)):SqT K H a xs:=.inl (.inl h)
theorem Inv.list (I:Inv X pins σ H s) (h:SqL X.K H a xs):∃its:List Value,Vals xs its∧PlainL s.heap a its.toArray∧xs.length≤sizeLine:=by
  rcases h with h | ⟨o,its,n,hk,hc,hd,hs,hz,r⟩
  · obtain ⟨z,its,n,r,e⟩:=h.ok I.hok
    exact ⟨its,r,⟨_,n,e,rfl,rfl,rfl⟩,z⟩
  · refine ⟨its.toList,r,⟨o,n,I.kIn a o hk,hc,hd,by simpa using hs⟩,?_⟩
    have e:=r.length
    simp only [Array.length_toList] at e
    omega
theorem Inv.tuple (I:Inv X pins σ H s) (h:SqT X.K H a xs):∃its:List Value,Vals xs its∧IsTup s.heap a its.toArray∧xs.length≤sizeLine:=by
  rcases h with h | ⟨o,its,n,hk,hc,hs,hz,r⟩
  · obtain ⟨z,its,r,p⟩:=h.ok I.hok
    exact ⟨its,r,p,z⟩
  · refine ⟨its.toList,r,⟨o,I.kIn a o hk,hc,n,by simpa using hs⟩,?_⟩
    have e:=r.length
    simp only [Array.length_toList] at e
    omega
theorem Inv.list_inj (I:Inv X pins σ H s) (h:SqL X.K H a xs) (h':SqL X.K H a ys):xs=ys:=by
  obtain ⟨its,r,⟨o,n,e,_,_,d⟩,_⟩:=I.list h
  obtain ⟨its',r',⟨o',n',e',_,_,d'⟩,_⟩:=I.list h'
  rw [e] at e';cases e'
  rw [d] at d'
  injection d' with d1 _
  have:its=its':=by simpa using congrArg Array.toList d1
  subst this
  exact r.inj r'
theorem Inv.tuple_inj (I:Inv X pins σ H s) (h:SqT X.K H a xs) (h':SqT X.K H a ys):xs=ys:=by
  obtain ⟨its,r,⟨o,e,_,n,d⟩,_⟩:=I.tuple h
  obtain ⟨its',r',⟨o',e',_,n',d'⟩,_⟩:=I.tuple h'
  rw [e] at e';cases e'
  rw [d] at d'
  injection d' with d1 _
  have:its=its':=by simpa using congrArg Array.toList d1
  subst this
  exact r.inj r'
end
abbrev Cx.wish (X:Cx) (E:Value→Shared→Prop):Cx:={ X with xe:=E }
abbrev Cx.nox (X:Cx):Cx:=X.wish fun _ _=>False
theorem Cx.Ok.wish {X:Cx} (ok:X.Ok) (E:Value→Shared→Prop):(X.wish E).Ok :=
  ⟨ok.mod,ok.kind,ok.glob,ok.blt,ok.above,ok.inj,ok.has,ok.cab,ok.hd,ok.frames,ok.stk,ok.exf,ok.bs,ok.bsz,ok.noex,ok.exfs,ok.funs,ok.frf⟩
theorem Cx.Ok.unwish {X:Cx} {E:Value→Shared→Prop} (ok:(X.wish E).Ok):X.Ok :=
  ⟨ok.mod,ok.kind,ok.glob,ok.blt,ok.above,ok.inj,ok.has,ok.cab,ok.hd,ok.frames,ok.stk,ok.exf,ok.bs,ok.bsz,ok.noex,ok.exfs,ok.funs,ok.frf⟩
section
variable {X:Cx} {pins:List (Addr×Obj)} {σ:St} {H:Hp} {s:Shared} {E:Value→Shared→Prop}
theorem Inv.wish (I:Inv X pins σ H s) (E:Value→Shared→Prop):Inv (X.wish E) pins σ H s:=⟨I.ok.wish E,I.os,I.bare,I.base,I.loc,I.cell,I.free,I.freeC,I.pin,I.hok,I.len⟩
theorem Inv.unwish (I:Inv (X.wish E) pins σ H s):Inv X pins σ H s:=⟨I.ok.unwish,I.os,I.bare,I.base,I.loc,I.cell,I.free,I.freeC,I.pin,I.hok,I.len⟩
theorem SP.unwish {D:Ends} {f:Flow} {s':Shared} (h:SP (X.wish E) pins D f s'):SP X pins D f s':=by
  cases f with
  | next=>obtain ⟨σ',H',I,q⟩:=h;exact ⟨σ',H',I.unwish,q⟩
  | brk=>obtain ⟨σ',H',I,q⟩:=h;exact ⟨σ',H',I.unwish,q⟩
  | cont=>obtain ⟨σ',H',I,q⟩:=h;exact ⟨σ',H',I.unwish,q⟩
  | ret u=>obtain ⟨v,σ',H',I,r,q⟩:=h;exact ⟨v,σ',H',I.unwish,r,q⟩
theorem PSs.nox {st:List Stmt} {t:TS} (h:PSs X.nox st t):PSs X st t:=fun pins s σ H D I hw =>
  wpAny_mono (h pins s σ H D (I.wish _) hw) (fun _ _ q=>q.unwish) fun _ _ z=>False.elim z
end
section
variable {X:Cx} {st:Stmt} {rest:List Stmt} {t u:TS} {e:Expr} {te:TE} {pos:Pos}
def ze4:TS:=fun D σ H=>D.nx σ H
def tSeq (t u:TS):TS:=fun D σ H=>t { D with nx:=u D } σ H
theorem zaw:PSs X [] ze4:=fun _ _ σ H _ I h=>wpAny_execs_nil ⟨σ,H,I,h⟩
theorem yaa (h1:PS X st t) (h2:PSs X rest u):PSs X (st::rest) (tSeq t u):=by
  intro pins s σ H D I h
  refine wpAny_execs_cons (thn (h1 pins s σ H { D with nx:=u D } I h) fun f s1 q=>?_)
  cases f with
  | next =>
    obtain ⟨σ',H',I',q⟩:=q
    exact h2 pins s1 σ' H' D I' q
  | ret v=>exact q
  | brk=>exact q
  | cont=>exact q
theorem zae (h1:PS X st t):PSs X [st] t:=by
  intro pins s σ H D I h
  refine wpAny_execs_cons (thn (h1 pins s σ H D I h) fun f s1 q=>?_)
  cases f with
  | next=>exact wpAny_execs_nil q
  | ret v=>exact q
  | brk=>exact q
  | cont=>exact q
theorem Inv.quiet {pins:List (Addr×Obj)} {σ:St} {H:Hp} {s:Shared} (I:Inv X pins σ H s):interactive X.env=false:=by simp [interactive,I.ok.kind]
def zhf (te:TE):TS:=fun D σ H=>te σ H fun _ H1=>D.nx σ H1
theorem ybX (he:PE X e te) (hs:swapsWith e none pos.line X.env=pure false:=by rfl):PS X (.Expr e pos) (zhf te):=by
  intro pins s σ H D I h
  exact wpAny_Expr_any (thn (he pins s σ H _ I h) fun v s1 ⟨x,H1,I1,r1,q1⟩=>⟨σ,H1,I1,q1⟩) I.quiet hs
def tRet (te:TE):TS:=fun D σ H=>te σ H D.rt
theorem yal (he:PE X e te):PS X (.Return (some e) pos) (tRet te):=by
  intro pins s σ H D I h
  exact wpAny_Return_some (thn (he pins s σ H _ I h) fun v s1 ⟨x,H1,I1,r1,q1⟩=>⟨x,σ,H1,I1,r1,q1⟩)
def tIfS (c:TT) (t u:TS):TS:=fun D σ H=>c σ H fun b H1=>if b=true then t D σ H1 else u D σ H1
theorem zbe {c:Expr} {a b:List Stmt} {tc:TT} (hc:PT X c tc) (ha:PSs X a t) (hb:PSs X b u):PS X (.If c a b pos) (tIfS tc t u):=by
  intro pins s σ H D I h
  refine wpAny_If (thn (hc pins s σ H _ I h) fun d s1 ⟨H1,I1,q1⟩=>?_)
  cases d with
  | true=>exact ha pins s1 σ H1 D I1 q1
  | false=>exact hb pins s1 σ H1 D I1 q1
end
abbrev TG:=V→St→Hp→(St→Hp→Prop)→Prop
abbrev TGs:=List V→St→Hp→(St→Hp→Prop)→Prop
def PG (X:Cx) (target:Expr) (t:TG):Prop :=
  ∀(pins:List (Addr×Obj)) (s:Shared) (σ:St) (H:Hp) (v:V) (u:Value) (Q:St→Hp→Prop),Inv X pins σ H s→RelV v u→t v σ H Q→
    wpAny (model X.prog X.w) X.A (assign target X.env u) (fun _ s'=>∃σ' H',Inv X pins σ' H' s'∧Q σ' H') X.xe s
def PGs (X:Cx) (ts:List Expr) (t:TGs):Prop :=
  ∀(pins:List (Addr×Obj)) (s:Shared) (σ:St) (H:Hp) (vs:List V) (us:List Value) (Q:St→Hp→Prop),Inv X pins σ H s→Vals vs us→t vs σ H Q→
    wpAny (model X.prog X.w) X.A (assignInOrder ((assignEach ts X.env).map (·.2)) us) (fun _ s'=>∃σ' H',Inv X pins σ' H' s'∧Q σ' H') X.xe s
abbrev TSet:=V→V→V→Hp→(Hp→Prop)→Prop
def PSet (X:Cx) (t:TSet):Prop :=
  ∀(pins:List (Addr×Obj)) (s:Shared) (σ:St) (H:Hp) (o i v:V) (ov iv u:Value) (Q:Hp→Prop),Inv X pins σ H s→RelV o ov→RelV i iv→RelV v u→t o i v H Q→
    wpAny (model X.prog X.w) X.A (setItem ov iv u) (fun _ s'=>∃H',Inv X pins σ H' s'∧Q H') X.xe s
abbrev TIp:=V→V→Hp→VK→Prop
def PIp (X:Cx) (op:Operator) (t:TIp):Prop :=
  ∀(pins:List (Addr×Obj)) (s:Shared) (σ:St) (H:Hp) (x y:V) (v u:Value) (Q:VK),Inv X pins σ H s→RelV x v→RelV y u→t x y H Q→
    wpAny (model X.prog X.w) X.A (inplaceOp op v u) (EP X pins σ Q) X.xe s
section
variable {X:Cx} {pos:Pos}
def zau (i:Nat):TG:=fun v σ H Q=>Q (σ.set i (some v)) H
theorem zaf {i:Nat} {x:Str} (hN:X.N.Nodup) (hi:X.N[i]?=some x) (hx:Loc X.env.scope x) (hf:X.fn x=true∨X.env.scope.names.lookup x=some .local:=by first|exact .inl rfl|exact .inr rfl|assumption):PG X (.Name x pos) (zau i):=by
  intro pins s σ H v u Q I r h
  exact wpAny_assign_Name (zaY I hN hi hx r (fun s' I'=>⟨_,H,I',h⟩) hf)
def gNil:TGs:=fun vs σ H Q=>vs=[]∧Q σ H
def zht (t:TG) (u:TGs):TGs:=fun vs σ H Q=>∃v r,vs=v::r∧t v σ H fun σ' H'=>u r σ' H' Q
theorem zaL:PGs X [] gNil:=by
  intro pins s σ H vs us Q I r h
  obtain ⟨e,h⟩:=h
  subst e
  cases r
  exact assignInOrder_nil ⟨σ,H,I,h⟩
theorem zah {e:Expr} {es:List Expr} {t:TG} {u:TGs} (h1:PG X e t) (h2:PGs X es u)
    (hs:(assignEach (e::es) X.env).map (·.2)=assign e X.env::(assignEach es X.env).map (·.2):=by rfl):PGs X (e::es) (zht t u):=by
  intro pins s σ H vs us Q I r h
  obtain ⟨v,vr,e1,h⟩:=h
  subst e1
  cases r with
  | cons r rr =>
    rw [hs]
    refine assignInOrder_cons (thn (h1 pins s σ H _ _ _ I r h) fun _ s1 ⟨σ1,H1,I1,q1⟩=>?_)
    exact h2 pins s1 σ1 H1 _ _ Q I1 rr q1
def gTup (K:PySem.W.Frag) (n:Nat) (t:TGs):TG:=fun v σ H Q=>∃a xs,v = .ref a∧SqT K H a xs∧xs.length=n∧t xs σ H Q
theorem ybe {es:List Expr} {k:Nat} {t:TGs} {n:Nat} (hc:X.calm=true) (h:PGs X es t)
    (hn:(assignEach es X.env).length=n:=by rfl) (hst:(assignEach es X.env).findIdx? (·.1)=none:=by rfl):PG X (.Tuple es k pos) (gTup X.K n t):=by
  intro pins s σ H v u Q I r hw
  obtain ⟨a,xs,e1,hq,hl,hw⟩:=hw
  subst e1
  cases r
  obtain ⟨its,rv,ht,hz⟩:=I.tuple hq
  refine assign_Tuple_tuple (I.ok.hd hc) ht (by simp [hn,←hl,rv.length]) hst fun h' hx=>?_
  have I1:Inv X pins σ H { s with heap:=h' }:=I.kept (t':=s.toks) fun b o e=>hx b o (Nat.ne_of_lt (Heap.lt_size e)) e
  exact h pins _ σ H xs _ Q I1 (by simpa using rv) hw
def gSub (to ti:TE) (t:TSet):TG:=fun v σ H Q=>to σ H fun o H1=>ti σ H1 fun i H2=>t o i v H2 fun H3=>Q σ H3
theorem zck {o i:Expr} {to ti:TE} {t:TSet} (ho:PE X o to) (hi:PE X i ti) (hs:PSet X t)
    (ha:∀v,assign (.Subscript o i pos) X.env v=(do
      let ov ←holding [v] (eval o X.env)
      let iv ←holding [v,ov] (eval i X.env)
      standAt pos
      holding [v,ov,iv] (setItem ov iv v)
      release [v,ov,iv] []):=by intro _;rfl):PG X (.Subscript o i pos) (gSub to ti t):=by
  intro pins s σ H v u Q I r h
  rw [ha]
  refine wpAny_bind (wpAny_holding (thn (ho pins s σ H _ I h) fun ov s1 ⟨x,H1,I1,r1,q1⟩=>?_))
  refine wpAny_bind (wpAny_holding (thn (hi pins s1 σ H1 _ I1 q1) fun iv s2 ⟨y,H2,I2,r2,q2⟩=>?_))
  refine wpAny_bind (wpAny_standAt (wpAny_bind (wpAny_holding (thn (hs pins s2 σ H2 x y v ov iv u _ I2 r1 r2 r q2) fun _ s3 ⟨H3,I3,q3⟩=>?_))))
  exact wpAny_release ⟨σ,H3,I3,q3⟩
def tAsg (te:TE) (g:TG):TS:=fun D σ H=>te σ H fun x H1=>g x σ H1 D.nx
theorem zbd {tg e:Expr} {te:TE} {g:TG} (he:PE X e te) (hg:PG X tg g) (hs:swapsWithSole [tg] e pos.line X.env=pure false:=by rfl) (hw:swappedStores [tg] e X.env=pure none:=by rfl)
    (h1:(assignEach [tg] X.env).map (·.2)=[assign tg X.env]:=by rfl):PS X (.Assign [tg] e pos) (tAsg te g):=by
  intro pins s σ H D I h
  refine wpAny_Assign_stores (thn (he pins s σ H _ I h) fun v s1 ⟨x,H1,I1,r1,q1⟩=>?_) hs hw
  rw [h1]
  exact thn (hg pins s1 σ H1 x v _ I1 r1 q1) fun _ s2 q=>q
theorem yaf {i:Nat} {x:Str} {e:Expr} {te:TE} {pos':Pos} (hN:X.N.Nodup) (hi:X.N[i]?=some x) (hx:Loc X.env.scope x) (he:PE X e te) (hs:swapsWith e (some (.Name x pos')) pos.line X.env=pure false:=by rfl) (hf:X.fn x=true∨X.env.scope.names.lookup x=some .local:=by first|exact .inl rfl|exact .inr rfl|assumption) :
    PS X (.Assign [.Name x pos'] e pos) (tAsg te (zau i)):=by
  intro pins s σ H D I h
  refine wpAny_Assign_Name (thn (he pins s σ H _ I h) fun v s1 ⟨y,H1,I1,r1,q1⟩=>?_) hs
  exact zaY I1 hN hi hx r1 (fun s2 I2=>⟨_,H1,I2,q1⟩) hf
def tPar (i j:Nat) (ta:TA):TS:=fun D σ H=>ta σ H fun vs H1=>∃v w,vs=[v,w]∧D.nx ((σ.set i (some v)).set j (some w)) H1
theorem ycp {i j:Nat} {x y:Str} {a b:Expr} {ta:TA} {px py pt:Pos} {kt k2 pt2} (hc:X.calm=true) (hN:X.N.Nodup) (hi:X.N[i]?=some x) (hj:X.N[j]?=some y) (hij:i≠j)
    (hx:X.env.scope.names.lookup x=some .local) (hy:X.env.scope.names.lookup y=some .local) (ha:PA X [a,b] ta)
    (hw:swappedStores [.Tuple [.Name x px,.Name y py] kt pt] (.Tuple [a,b] k2 pt2) X.env=pure (some [x,y]))
    (hs:swapsWithSole [.Tuple [.Name x px,.Name y py] kt pt] (.Tuple [a,b] k2 pt2) pos.line X.env=pure false:=by rfl) :
    PS X (.Assign [.Tuple [.Name x px,.Name y py] kt pt] (.Tuple [a,b] k2 pt2) pos) (tPar i j ta):=by
  intro pins s σ H D I h
  rw [exec_Assign_arm]
  refine wpAny_bind (wpAny_standAt ?_)
  rw [hs]
  refine wpAny_bind (wpAny_pure ?_)
  rw [if_neg (by decide)]
  refine wpAny_bind (Tuple_ (thn (ha _ pins s σ H _ I h) fun us s1 ⟨vs,H1,I1,r1,q1⟩=>?_))
  obtain ⟨v,w,e1,q1⟩:=q1
  subst e1
  obtain ⟨u1,u2,rfl,rv,rw'⟩:∃u1 u2,us=[u1,u2]∧RelV v u1∧RelV w u2:=by
    cases r1 with
    | cons p q =>
      cases q with
      | cons p' q' =>
        cases q'
        exact ⟨_,_,rfl,p,p'⟩
  refine wpAny_newObj_type ?_ (by show 2≤sizeLine;decide)
  have I2:Inv X pins σ H1 { s1 with heap:=s1.heap.push { cls:=.type "tuple",data:=.seq [u1,u2].toArray } }:=I1.kept (t':=s1.toks) fun b o e=>Heap.get?_push_of_some _ e
  rw [hw]
  refine wpAny_bind (wpAny_pure ?_)
  show wpAny (model X.prog X.w) X.A (do rule "assign.swapped-stores";let items ←unpackItems (.ref s1.heap.objs.size) 2 none;assignInOrder [fun v=>bindName X.env y v,fun v=>bindName X.env x v] items.reverse;pure Flow.next) _ _ _
  refine wpAny_bind (wpAny_rule (wpAny_bind (unpackItems_tuple (items:=#[u1,u2]) (I.ok.hd hc) (IsTup.new s1.heap _) fun h' hx'=>?_)))
  have I3:=I2.kept (h':=h') (t':=s1.toks) fun b o e=>hx' b o (Nat.ne_of_lt (Heap.lt_size e)) e
  show wpAny _ _ (assignInOrder [fun v=>bindName X.env y v,fun v=>bindName X.env x v] [u2,u1] >>= fun _=>pure Flow.next) _ _ _
  refine wpAny_bind (assignInOrder_cons (wpAny_bindName (zaY I3 hN hj (.inl hy) rw' (fun s2 I4=>?_) (.inr hy))))
  refine assignInOrder_cons (wpAny_bindName (zaY I4 hN hi (.inl hx) rv (fun s3 I5=>assignInOrder_nil (wpAny_pure ?_)) (.inr hx)))
  rw [List.set_comm _ _ (Ne.symm hij)] at I5
  exact ⟨_,H1,I5,q1⟩
def tAug (i:Nat) (te:TE) (ti:TIp):TS:=fun D σ H=>∃x,σ[i]?=some (some x)∧te σ H fun y H1=>ti x y H1 fun z H2=>D.nx (σ.set i (some z)) H2
theorem ybt {i:Nat} {x:Str} {e:Expr} {te:TE} {op:Operator} {ti:TIp} {pos':Pos} (hN:X.N.Nodup) (hi:X.N[i]?=some x) (hx:Loc X.env.scope x) (he:PE X e te) (ho:PIp X op ti) (hf:X.fn x=true∨X.env.scope.names.lookup x=some .local:=by first|exact .inl rfl|exact .inr rfl|assumption) :
    PS X (.AugAssign (.Name x pos') op e pos) (tAug i te ti):=by
  intro pins s σ H D I h
  obtain ⟨v,e1,h⟩:=h
  obtain ⟨m,hn,hl⟩:=I.loc
  have vis:Vis X.env.scope x:=by rcases hx with k|k;exact .inl k;exact .inr (.inl k)
  obtain ⟨u,r,l⟩:=hl i x v hi e1 vis
  refine wpAny_AugAssign_Name ?_
  have go:wpAny (model X.prog X.w) X.A (eval e X.env) (fun w s₂=>wpAny (model X.prog X.w) X.A (inplaceOp op u w) (fun r s₃=>wpAny (model X.prog X.w) X.A (storeName X.env x r) (fun _=>SP X pins D .next) X.xe s₃) X.xe s₂) X.xe s:=by
    refine thn (he pins s σ H _ I h) fun w s1 ⟨y,H1,I1,r1,q1⟩=>?_
    refine thn (ho pins s1 σ H1 v y u w _ I1 r r1 q1) fun z s2 ⟨zv,H2,I2,r2,q2⟩=>?_
    exact zaY I2 hN hi hx r2 (fun s3 I3=>⟨_,H2,I3,q2⟩) hf
  rcases l with ⟨hk,hm⟩ | ⟨hk,c,hc,hcell⟩
  · exact wpAny_loadName_local I.ok.kind hk hn hm go
  · rcases hk with hk|hk
    · exact wpAny_loadName_cell I.ok.kind hk hc hcell go
    · rcases hx with k|k
      · have:X.env.scope.names.lookup x=some .free:=hk
        rw [k] at this;cases this
      · have:X.env.scope.names.lookup x=some .free:=hk
        rw [k] at this;cases this
end
section
variable {X:Cx} {pos:Pos}
def ygd (c:TT) (tb:TS):TS:=fun D σ H=>∃W:Nat→St→Hp→Prop,(∃m,W m σ H)∧∀m σ H,W m σ H→
  c σ H fun b H1=>if b=true then ∃N:St→Hp→Prop,(∀σ' H',N σ' H'→∃m',m'<m∧W m' σ' H')∧tb { D with nx:=N,ct:=N,bk:=D.nx } σ H1 else D.nx σ H1
theorem yaM {c:Expr} {body:List Stmt} {tc:TT} {tb:TS} (hp:PassesOwn (model X.prog X.w) X.A X.env X.xe) (hc:PT X c tc) (hb:PSs X body tb):PS X (.While c body [] pos) (ygd tc tb):=by
  intro pins s σ H D I h
  obtain ⟨W,⟨m0,w0⟩,turn⟩:=h
  refine wpAny_While (codeAny_whileLoop (fun n s'=>∃σ' H',Inv X pins σ' H' s'∧W n σ' H') ?_ m0 ⟨σ,H,I,w0⟩)
  rintro n s1 ⟨σ1,H1,I1,w1⟩
  refine wpAny_passesOwn hp (thn (hc pins s1 σ1 H1 _ I1 (turn n σ1 H1 w1)) fun b s2 ⟨H2,I2,q2⟩=>?_)
  cases b with
  | true =>
    obtain ⟨N,hN,q2⟩:=q2
    rw [if_pos rfl]
    refine wpAny_passesOwn hp (thn (hb pins s2 σ1 H2 _ I2 q2) fun f s3 q3=>?_)
    cases f with
    | next =>
      obtain ⟨σ3,H3,I3,n3⟩:=q3
      obtain ⟨m',hm,w3⟩:=hN σ3 H3 n3
      exact ⟨m',hm,σ3,H3,I3,w3⟩
    | cont =>
      obtain ⟨σ3,H3,I3,n3⟩:=q3
      obtain ⟨m',hm,w3⟩:=hN σ3 H3 n3
      exact ⟨m',hm,σ3,H3,I3,w3⟩
    | brk=>exact q3
    | ret v=>exact q3
  | false =>
    rw [if_neg Bool.false_ne_true]
    exact wpAny_execs_nil ⟨σ1,H2,I2,q2⟩
end
structure It where
  go:Nat→Hp→Prop
  yld:Nat→Hp→V→Hp→Prop
  stop:Nat→Hp→Prop
def FpOk (X:Cx) (pins:List (Addr×Obj)) (H:Hp) (b:Addr):Prop :=
  H b=none∧b≠X.env.locals∧b∉X.fs∧(b∈X.ex∨X.s₀.heap.objs.size≤b)∧(∀x c,X.env.cells.lookup x=some c→c≠b)∧∀p∈X.pn++pins,p.1≠b
theorem Inv.fpOk {X:Cx} {pins:List (Addr×Obj)} {σ:St} {H H':Hp} {s:Shared} {b:Addr} (I:Inv X pins σ H s) (hb:s.heap.objs.size≤b) (hn:H' b=none):FpOk X pins H' b:=by
  refine ⟨hn,Nat.ne_of_gt (Nat.lt_of_lt_of_le I.lt hb),I.nofs hb,.inr (Nat.le_trans I.sz hb),fun x c e z=>?_,fun p hp z=>?_⟩
  · obtain ⟨v,q⟩:=I.cell x c e
    exact absurd (Nat.lt_of_lt_of_le q.lt (by rw [z];exact hb)) (Nat.lt_irrefl _)
  · exact absurd (Nat.lt_of_lt_of_le (Heap.lt_size (I.pin p hp).1) (by rw [z];exact hb)) (Nat.lt_irrefl _)
structure Turn (P:Program) (w:World) (K:PySem.W.Frag) (tg:Expr) (J:It) (fp:List Addr) (it:Addr) (tn:Nat→Heap→Prop):Prop where
  mem:it∈fp
  obj:∀i h,tn i h→∀b∈fp,∃o,h.get? b=some o∧∀v,o.data≠.cell v
  keep:∀i h h',tn i h→(∀b∈fp,∀o,h.get? b=some o→h'.get? b=some o)→tn i h'
  item:∀(X:Cx),X.prog=P→X.w=w→X.K=K→X.calm=true→∀(i:Nat) (pins:List (Addr×Obj)) (s:Shared) (σ:St) (H:Hp) (E:Value→Shared→Prop),Inv X pins σ H s→(∀b∈fp,FpOk X pins H b)→tn i s.heap→J.go i H→
    wpAny (model P w) X.A (pyNext (.ref it)) (fun r s1=>∃u,r=some u∧
      wpAny (model P w) X.A (letOwnedTupleGo tg (.ref it) u) (fun _ s2=>∃x H',Inv X pins σ H' s2∧RelV x u∧J.yld i H x H'∧tn (i+1) s2.heap∧∀b∈fp,H' b=none) E s1) E s
  done:∀(X:Cx),X.prog=P→X.w=w→X.K=K→X.calm=true→∀(i:Nat) (pins:List (Addr×Obj)) (s:Shared) (σ:St) (H:Hp) (E:Value→Shared→Prop),Inv X pins σ H s→(∀b∈fp,FpOk X pins H b)→tn i s.heap→J.stop i H→
    wpAny (model P w) X.A (pyNext (.ref it)) (fun r s1=>r=none∧Inv X pins σ H s1) E s
  self:∀(A:Around) (i:Nat) (s:Shared) (Q:Value→Shared→Prop) (E:Value→Shared→Prop),tn i s.heap→Q (.ref it) s→wpAny (model P w) A (pyIter (.ref it)) Q E s
abbrev TI:=St→Hp→(It→Hp→Prop)→Prop
def PIE (X:Cx) (pins:List (Addr×Obj)) (σ:St) (tg:Expr) (R:It→Hp→Prop) (itv:Value) (s2:Shared):Prop :=
  ∃(it:Addr) (fp:List Addr) (tn:Nat→Heap→Prop) (J:It) (H':Hp),itv = .ref it∧Inv X pins σ H' s2∧Turn X.prog X.w X.K tg J fp it tn∧tn 0 s2.heap∧(∀b∈fp,FpOk X pins H' b)∧R J H'
def PI (X:Cx) (tg iter:Expr) (wi:TI):Prop :=
  ∀(pins:List (Addr×Obj)) (s:Shared) (σ:St) (H:Hp) (R:It→Hp→Prop),Inv X pins σ H s→wi σ H R→
    wpAny (model X.prog X.w) X.A (eval iter X.env) (fun v s1=>wpAny (model X.prog X.w) X.A (pyIter v) (PIE X pins σ tg R) X.xe s1) X.xe s
theorem yfC {M:Model} {A:Around} {E:Value→Shared→Prop} {s:Shared} {tg:Expr} {it:Addr} {u:Value} {o:Obj} {n:String} {vs:Array Value} {Q:Unit→Shared→Prop} (ho:s.heap.get? it=some o) (hc:o.cls = .type n) (hd:o.data = .fields vs)
    (hn:["enumerate","zip","dict_itemiterator","dict_reverseitemiterator","odict_iterator","itertools.zip_longest","itertools.pairwise"].contains n=false) (hQ:Q () s):wpAny M A (letOwnedTupleGo tg (.ref it) u) Q E s:=by
  unfold letOwnedTupleGo
  cases tg <;> first
    | exact wpAny_pure hQ
    | (cases u <;> first
        | exact wpAny_pure hQ
        | (refine wpAny_bind (wpAny_load ho ?_)
           rw [hc,hd]
           show wpAny M A (if (["enumerate","zip","dict_itemiterator","dict_reverseitemiterator","odict_iterator","itertools.zip_longest","itertools.pairwise"].contains n&&vs[0]?==some (rawInt _))=true then _ else _) Q E s
           rw [if_neg (by intro h;rw [hn,Bool.false_and] at h;cases h)]
           exact wpAny_pure hQ))
def Itl (K:PySem.W.Frag) (a:Addr):It :=
  ⟨fun i H=>∃xs x,SqL K H a xs∧xs[i]?=some x,fun i H x H'=>H'=H∧∀xs,SqL K H a xs→xs[i]?=some x,fun i H=>∃xs,SqL K H a xs∧xs.length≤i⟩
def Itt (K:PySem.W.Frag) (a:Addr):It :=
  ⟨fun i H=>∃xs x,SqT K H a xs∧xs[i]?=some x,fun i H x H'=>H'=H∧∀xs,SqT K H a xs→xs[i]?=some x,fun i H=>∃xs,SqT K H a xs∧xs.length≤i⟩
def Itr (lo:Int) (n:Nat):It:=⟨fun i _=>i<n,fun i H x H'=>H'=H∧x = .int (lo+i),fun i _=>n≤i⟩
theorem zfv {P:Program} {w:World} {K:PySem.W.Frag} {tg:Expr} (a it:Addr):Turn P w K tg (Itl K a) [it] it (fun i h=>h.IsListIter it a i) where
  mem:=by simp
  obj:=fun i h st b hb=>by
    have e:b=it:=by simpa using hb
    subst e
    obtain ⟨o,e,c,d⟩:=st
    exact ⟨o,e,fun v z=>by rw [d] at z;cases z⟩
  keep:=fun i h h' st k=>st.at fun o e=>k it (by simp) o e
  item:=by
    intro X hP hw hK hc i pins s σ H E I hf st hg
    subst hP hw hK
    obtain ⟨xs,x,hq,hx⟩:=hg
    obtain ⟨its,rv,p,hz⟩:=I.list hq
    obtain ⟨u,hu,ru⟩:=rv.get hx
    obtain ⟨f0,f1,f2,f3,f4,f5⟩:=hf it (by simp)
    refine wpAny_pyNext_list_item st p.isList (x:=u) (by simpa using hu) fun h' st' sb=>?_
    have I1:Inv X pins σ H { s with heap:=h' }:=I.turned (t':=s.toks) (fun b o hb e=>(sb.2 b hb).trans e) f0 f1 f3 f4 f5
    obtain ⟨o,e,c,d⟩:=id st'
    exact ⟨u,rfl,yfC (s:={ s with heap:=h' }) e c d (by decide) ⟨x,H,I1,ru,⟨rfl,fun ys hy=>by rw [I.list_inj hy hq];exact hx⟩,st',fun b hb=>(hf b hb).1⟩⟩
  done:=by
    intro X hP hw hK hc i pins s σ H E I hf st hg
    subst hP hw hK
    obtain ⟨xs,hq,hx⟩:=hg
    obtain ⟨its,rv,p,hz⟩:=I.list hq
    obtain ⟨f0,f1,f2,f3,f4,f5⟩:=hf it (by simp)
    have hl:=rv.length
    exact wpAny_pyNext_list_end (I.ok.hd hc) st p.isList (by simp;omega) fun h' eb=>⟨rfl,I.turned (t':=s.toks) (fun b o hb e=>eb b o hb e) f0 f1 f3 f4 f5⟩
  self:=fun _ _ _ _ _ st h=>wpAny_pyIter_listiter st h
theorem yeA {P:Program} {w:World} {K:PySem.W.Frag} {tg:Expr} (a it:Addr):Turn P w K tg (Itt K a) [it] it (fun i h=>h.IsTupleIter it a i) where
  mem:=by simp
  obj:=fun i h st b hb=>by
    have e:b=it:=by simpa using hb
    subst e
    obtain ⟨o,e,c,d⟩:=st
    exact ⟨o,e,fun v z=>by rw [d] at z;cases z⟩
  keep:=fun i h h' st k=>st.at fun o e=>k it (by simp) o e
  item:=by
    intro X hP hw hK hc i pins s σ H E I hf st hg
    subst hP hw hK
    obtain ⟨xs,x,hq,hx⟩:=hg
    obtain ⟨its,rv,p,hz⟩:=I.tuple hq
    obtain ⟨u,hu,ru⟩:=rv.get hx
    obtain ⟨f0,f1,f2,f3,f4,f5⟩:=hf it (by simp)
    refine wpAny_pyNext_tuple_item st (show s.heap.IsTuple a its.toArray from p) (x:=u) (by simpa using hu) fun h' st' sb=>?_
    have I1:Inv X pins σ H { s with heap:=h' }:=I.turned (t':=s.toks) (fun b o hb e=>(sb.2 b hb).trans e) f0 f1 f3 f4 f5
    obtain ⟨o,e,c,d⟩:=id st'
    exact ⟨u,rfl,yfC (s:={ s with heap:=h' }) e c d (by decide) ⟨x,H,I1,ru,⟨rfl,fun ys hy=>by rw [I.tuple_inj hy hq];exact hx⟩,st',fun b hb=>(hf b hb).1⟩⟩
  done:=by
    intro X hP hw hK hc i pins s σ H E I hf st hg
    subst hP hw hK
    obtain ⟨xs,hq,hx⟩:=hg
    obtain ⟨its,rv,p,hz⟩:=I.tuple hq
    obtain ⟨f0,f1,f2,f3,f4,f5⟩:=hf it (by simp)
    have hl:=rv.length
    exact wpAny_pyNext_tuple_end (I.ok.hd hc) st (show s.heap.IsTuple a its.toArray from p) (by simp;omega) fun h' eb=>⟨rfl,I.turned (t':=s.toks) (fun b o hb e=>eb b o hb e) f0 f1 f3 f4 f5⟩
  self:=fun _ _ _ _ _ st h=>wpAny_pyIter_tupleiter st h
theorem zeE {P:Program} {w:World} {K:PySem.W.Frag} {tg:Expr} (it:Addr) (lo:Int) (n:Nat):Turn P w K tg (Itr lo n) [it] it (fun i h=>IsRangeIter h it (lo+(i:Nat)*1) ((n:Int)-(i:Nat)) 1) where
  mem:=by simp
  obj:=fun i h st b hb=>by
    have e:b=it:=by simpa using hb
    subst e
    exact ⟨_,st,fun v z=>by
      have z':Data.fields _=Data.cell v:=z
      cases z'⟩
  keep:=fun i h h' st k=>k it (by simp) _ st
  item:=by
    intro X hP hw hK hc i pins s σ H E I hf st hg
    subst hP hw hK
    obtain ⟨f0,f1,f2,f3,f4,f5⟩:=hf it (by simp)
    have W:=Walks.range (prog:=X.prog) (w:=X.w) (I.ok.hd hc) it lo 1 n
    refine W.item i s _ _ hg st fun v h' tk hv st' kk=>?_
    obtain ⟨t,rfl⟩:=hv
    have I1:Inv X pins σ H { s with heap:=h',toks:=tk }:=I.turned (fun b o hb e=>kk b o (by simpa using hb) e) f0 f1 f3 f4 f5
    refine ⟨_,rfl,yfC (s:={ s with heap:=h',toks:=tk }) (n:="range_iterator") st' rfl rfl (by decide) ⟨.int (lo+i),H,I1,⟨t,?_⟩,⟨rfl,rfl⟩,st',fun b hb=>(hf b hb).1⟩⟩
    rw [Int.mul_one]
  done:=by
    intro X hP hw hK hc i pins s σ H E I hf st hg
    subst hP hw hK
    obtain ⟨f0,f1,f2,f3,f4,f5⟩:=hf it (by simp)
    exact wpAny_pyNext_range_end (I.ok.hd hc) st (by have:n≤i:=hg;omega) fun h' eb=>⟨rfl,I.turned (t':=s.toks) (fun b o hb e=>eb b o hb e) f0 f1 f3 f4 f5⟩
  self:=fun _ _ _ _ _ st h=>wpAny_pyIter_rangeiter st h
end L2
namespace L2
open PySem PySem.Spec PyProof.Rows
section
variable {X:Cx} {tg:Expr}
def zgj (K:PySem.W.Frag) (tl:TE):TI:=fun σ H R=>tl σ H fun x H1=>∃a,x = .ref a∧(∃xs,SqL K H1 a xs)∧R (Itl K a) H1
def iTup (K:PySem.W.Frag) (tl:TE):TI:=fun σ H R=>tl σ H fun x H1=>∃a,x = .ref a∧(∃xs,SqT K H1 a xs)∧R (Itt K a) H1
theorem zbk {l:Expr} {tl:TE} (hl:PE X l tl):PI X tg l (zgj X.K tl):=by
  intro pins s σ H R I h
  refine thn (hl pins s σ H _ I h) fun v s1 ⟨x,H1,I1,r1,q1⟩=>?_
  obtain ⟨a,e,⟨xs,hq⟩,q⟩:=q1
  subst e
  cases r1
  obtain ⟨its,rv,p,hz⟩:=I1.list hq
  refine wpAny_pyIter_list p.isList ?_
  refine ⟨s1.heap.objs.size,[s1.heap.objs.size],_,_,H1,rfl,I1.kept (t':=s1.toks) fun b o e=>Heap.get?_push_of_some _ e,zfv a _,⟨_,Heap.get?_push_size _ rfl,rfl,rfl⟩,fun b hb=>?_,q⟩
  have e:b=s1.heap.objs.size:=by simpa using hb
  subst e
  exact I1.fpOk (Nat.le_refl _) (I1.hok.fresh (Nat.le_refl _))
theorem zeK {l:Expr} {tl:TE} (hl:PE X l tl):PI X tg l (iTup X.K tl):=by
  intro pins s σ H R I h
  refine thn (hl pins s σ H _ I h) fun v s1 ⟨x,H1,I1,r1,q1⟩=>?_
  obtain ⟨a,e,⟨xs,hq⟩,q⟩:=q1
  subst e
  cases r1
  obtain ⟨its,rv,p,hz⟩:=I1.tuple hq
  refine wpAny_pyIter_tuple (show s1.heap.IsTuple a its.toArray from p) ?_
  refine ⟨s1.heap.objs.size,[s1.heap.objs.size],_,_,H1,rfl,I1.kept (t':=s1.toks) fun b o e=>Heap.get?_push_of_some _ e,yeA a _,⟨_,Heap.get?_push_size _ rfl,rfl,rfl⟩,fun b hb=>?_,q⟩
  have e:b=s1.heap.objs.size:=by simpa using hb
  subst e
  exact I1.fpOk (Nat.le_refl _) (I1.hok.fresh (Nat.le_refl _))
theorem zel {pins:List (Addr×Obj)} {σ:St} {H:Hp} {s:Shared} {R:It→Hp→Prop} {E:Value→Shared→Prop} {lo hi:Int} {t u v:Tok} {tk:Nat} (I:Inv X pins σ H s) (h1 : -(2^62)≤lo) (h2:lo<2^62) (h3 : -(2^62)≤hi) (h4:hi<2^62)
    (q:R (Itr lo (hi-lo).toNat) H):wpAny (model X.prog X.w) X.A (pyIter (.ref s.heap.objs.size)) (PIE X pins σ tg R) E { s with heap:=s.heap.push { cls:=.type "range",data:=.fields #[.int lo t,.int hi u,.int 1 v] },toks:=tk }:=by
  refine wpAny_pyIter_range (IsRange.new ..) (small_one h1 h2 h3 h4) ?_
  have I1:Inv X pins σ H { s with heap:=s.heap.push { cls:=.type "range",data:=.fields #[.int lo t,.int hi u,.int 1 v] },toks:=tk }:=I.kept fun b o e=>Heap.get?_push_of_some _ e
  refine ⟨(s.heap.push { cls:=.type "range",data:=.fields #[.int lo t,.int hi u,.int 1 v] }).objs.size,[(s.heap.push { cls:=.type "range",data:=.fields #[.int lo t,.int hi u,.int 1 v] }).objs.size],_,_,H,rfl,
    I1.kept (t':=tk) fun b o e=>Heap.get?_push_of_some _ e,zeE _ lo (hi-lo).toNat,?_,fun b hb=>?_,q⟩
  · have e1:lo+((0:Nat):Int)*1=lo:=by simp
    have e2:(((hi-lo).toNat:Nat):Int)-((0:Nat):Int)=Builtin.Range.rangeSize lo hi 1:=by rw [rangeSize_one];split <;> omega
    show IsRangeIter _ _ (lo+((0:Nat):Int)*1) ((((hi-lo).toNat:Nat):Int)-((0:Nat):Int)) 1
    rw [e1,e2]
    exact Heap.get?_push_size _ rfl
  · have e:b=(s.heap.push { cls:=.type "range",data:=.fields #[.int lo t,.int hi u,.int 1 v] }).objs.size:=by simpa using hb
    subst e
    exact I1.fpOk (Nat.le_refl _) (I1.hok.fresh (Nat.le_refl _))
def yhq (ta:TA):TI:=fun σ H R=>ta σ H fun vs H1=>∃j:Int,vs=[.int j]∧-(2^62)≤j∧j<2^62∧R (Itr 0 j.toNat) H1
def zhr (ta:TA):TI:=fun σ H R=>ta σ H fun vs H1=>∃i j:Int,vs=[.int i,.int j]∧(-(2^62)≤i∧i<2^62∧-(2^62)≤j∧j<2^62)∧R (Itr i (j-i).toNat) H1
theorem ya1 {a:Expr} {ta:TA} {p pos:Pos} (hg:Gl X "range") (hm:X.mg "range"=none) (ha:PA X [a] ta) (hs:starEach [a] X.env=[(false,eval a X.env)]:=by rfl):PI X tg (.Call (.Name "range" p) [a] [] pos) (yhq ta):=by
  intro pins s σ H R I h
  refine Call_ (ybu I hg hm boot_range (PyProof.Rows.callWith_type1 (thn (ha pos pins s σ H _ I h) fun us s1 ⟨vs,H1,I1,r1,q1⟩=>?_) hs rfl))
  obtain ⟨j,e,q1,q2,q⟩:=q1
  subst e
  cases r1 with
  | cons r rr =>
    cases rr
    obtain ⟨t,rfl⟩:=r
    exact call_range_1 (zel I1 (by omega) (by omega) q1 q2 (by simpa using q))
theorem zbU {a b:Expr} {ta:TA} {p pos:Pos} (hg:Gl X "range") (hm:X.mg "range"=none) (ha:PA X [a,b] ta) (hs:starEach [a,b] X.env=[(false,eval a X.env),(false,eval b X.env)]:=by rfl) (hs2:starEach [b] X.env=[(false,eval b X.env)]:=by rfl) :
    PI X tg (.Call (.Name "range" p) [a,b] [] pos) (zhr ta):=by
  intro pins s σ H R I h
  refine Call_ (ybu I hg hm boot_range (PyProof.Rows.callWith_type1 (thn (ha pos pins s σ H _ I h) fun us s1 ⟨vs,H1,I1,r1,q1⟩=>?_) (by rw [hs,hs2]) (by rw [hs2];rfl)))
  obtain ⟨i,j,e,⟨q1,q2,q3,q4⟩,q⟩:=q1
  subst e
  cases r1 with
  | cons r rr =>
    cases rr with
    | cons r' rr =>
      cases rr
      obtain ⟨t,rfl⟩:=r
      obtain ⟨t',rfl⟩:=r'
      exact call_range_2 (zel I1 q1 q2 q3 q4 q)
def tFor (wi:TI) (g:TG) (tb:TS):TS:=fun D σ H=>wi σ H fun J H1=>∃W:Nat→Nat→St→Hp→Prop,(∃m,W 0 m σ H1)∧∀i m σ H,W i m σ H→
  (J.stop i H∧D.nx σ H)∨(J.go i H∧∃N:St→Hp→Prop,(∀σ' H',N σ' H'→∃m',m'<m∧W (i+1) m' σ' H')∧∀x H',J.yld i H x H'→g x σ H' fun σ2 H2=>tb { D with nx:=N,ct:=N,bk:=D.nx } σ2 H2)
def zb8 (fp:List Addr) (h:Heap):List (Addr×Obj):=fp.filterMap fun b=>(h.get? b).map fun o=>(b,o)
theorem za8 {fp:List Addr} {h:Heap} {b:Addr} {o:Obj} (hb:b∈fp) (e:h.get? b=some o):(b,o)∈zb8 fp h:=List.mem_filterMap.mpr ⟨b,hb,by rw [e];rfl⟩
theorem zdj {fp:List Addr} {h:Heap} {p:Addr×Obj} (hp:p∈zb8 fp h):p.1∈fp∧h.get? p.1=some p.2:=by
  obtain ⟨b,hb,e⟩:=List.mem_filterMap.mp hp
  cases q:h.get? b with
  | none=>rw [q] at e;cases e
  | some o =>
    rw [q] at e
    have e':(b,o)=p:=Option.some.inj e
    subst e'
    exact ⟨hb,q⟩
theorem Inv.pinned {pins:List (Addr×Obj)} {σ:St} {H:Hp} {s:Shared} {fp:List Addr} (I:Inv X pins σ H s) (hf:∀b∈fp,FpOk X pins H b) (ho:∀b∈fp,∃o,s.heap.get? b=some o∧∀v,o.data≠.cell v):Inv X (pins++zb8 fp s.heap) σ H s :=
  I.pins_of fun p hp=>(List.mem_append.mp hp).elim (fun z=>I.pin p (List.mem_append_right _ z)) fun z=>by
    obtain ⟨hb,e⟩:=zdj z
    obtain ⟨f0,f1,f2,_⟩:=hf p.1 hb
    obtain ⟨o,e',d⟩:=ho p.1 hb
    rw [e] at e';cases e'
    exact ⟨e,f0,f1,f2,d⟩
theorem Inv.unpinned {pins pl:List (Addr×Obj)} {σ:St} {H:Hp} {s:Shared} (I:Inv X (pins++pl) σ H s):Inv X pins σ H s:=I.pins_of fun p hp=>I.pin p (List.mem_append_right _ (List.mem_append_left _ hp))
theorem zaU {iter:Expr} {body:List Stmt} {wi:TI} {g:TG} {tb:TS} {pos:Pos} (hp:PassesOwn (model X.prog X.w) X.A X.env X.xe) (hc:X.calm=true) (hi:PI X tg iter wi) (hg:PG X tg g) (hb:PSs X body tb)
    (hs:∀x,foldedSetIterable iter X.env x=pure x:=by intro _;rfl):PS X (.For tg iter body [] pos) (tFor wi g tb):=by
  intro pins s σ H D I h
  refine wpAny_For (thn (hi pins s σ H _ I h) fun v s1 h1=>thn h1 fun itv s2 h2=>?_) hs
  obtain ⟨it,fp,tn,J,H2,e,I2,T,st2,f2,W,⟨m0,w0⟩,turn⟩:=h2
  subst e
  have stat:∀ {H':Hp},(∀b∈fp,H' b=none)→∀b∈fp,FpOk X pins H' b:=fun hn b hb=>⟨hn b hb,(f2 b hb).2⟩
  refine codeAny_forLoop_any (fun n s'=>∃i σ' H',Inv X pins σ' H' s'∧tn i s'.heap∧(∀b∈fp,H' b=none)∧W i n σ' H') ?_ m0 ⟨0,σ,H2,I2,st2,fun b hb=>(f2 b hb).1,w0⟩
  rintro n s3 ⟨i,σ3,H3,I3,st3,fr3,w3⟩
  rcases turn i n σ3 H3 w3 with ⟨stop,qn⟩ | ⟨go,N,hN,step⟩
  · refine wpAny_passesOwn hp (thn (T.done X rfl rfl rfl hc i pins s3 σ3 H3 X.xe I3 (stat fr3) st3 stop) fun r s4 ⟨hr,I4⟩=>?_)
    subst hr
    exact wpAny_execs_nil ⟨σ3,H3,I4,qn⟩
  · refine wpAny_passesOwn hp (thn (T.item X rfl rfl rfl hc i pins s3 σ3 H3 X.xe I3 (stat fr3) st3 go) fun r s4 ⟨u,hr,h4⟩=>?_)
    subst hr
    refine wpAny_passesOwn hp (thn h4 fun _ s5 ⟨x,H5,I5,r5,y5,st5,fr5⟩=>?_)
    have I5':=I5.pinned (stat fr5) (T.obj _ _ st5)
    refine wpAny_passesOwn hp (thn (hg _ s5 σ3 H5 x u _ I5' r5 (step x H5 y5)) fun _ s6 ⟨σ6,H6,I6,q6⟩=>?_)
    refine wpAny_passesOwn hp (thn (hb _ s6 σ6 H6 _ I6 q6) fun f s7 q7=>?_)
    have again:∀ {σ7:St} {H7:Hp},Inv X (pins++zb8 fp s5.heap) σ7 H7 s7→N σ7 H7→∃m,m<n∧∃i σ' H',Inv X pins σ' H' s7∧tn i s7.heap∧(∀b∈fp,H' b=none)∧W i m σ' H':=fun {σ7 H7} I7 n7=>by
      obtain ⟨m',hm,w7⟩:=hN σ7 H7 n7
      refine ⟨m',hm,i+1,σ7,H7,I7.unpinned,T.keep _ _ _ st5 fun b hb o e=>(I7.pin (b,o) (List.mem_append_right _ (List.mem_append_right _ (za8 hb e)))).1,fun b hb=>?_,w7⟩
      obtain ⟨o,e,d⟩:=T.obj _ _ st5 b hb
      exact (I7.pin (b,o) (List.mem_append_right _ (List.mem_append_right _ (za8 hb e)))).2.1
    cases f with
    | next=>obtain ⟨σ7,H7,I7,n7⟩:=q7;exact again I7 n7
    | cont=>obtain ⟨σ7,H7,I7,n7⟩:=q7;exact again I7 n7
    | brk=>obtain ⟨σ7,H7,I7,q7⟩:=q7;exact ⟨σ7,H7,I7.unpinned,q7⟩
    | ret v=>obtain ⟨x7,σ7,H7,I7,r7,q7⟩:=q7;exact ⟨x7,σ7,H7,I7.unpinned,r7,q7⟩
end
theorem yem {K:PySem.W.Frag} {a:Addr} {xs:List V} {g:TG} {tb:TS} {D:Ends} {σ:St} {H:Hp} (Pv:Nat→St→Hp→Prop) (h0:Pv 0 σ H) (hl:∀i σ H,i≤xs.length→Pv i σ H→SqL K H a xs)
    (hs:∀i x σ H,xs[i]?=some x→Pv i σ H→g x σ H fun σ2 H2=>tb { D with nx:=Pv (i+1),ct:=Pv (i+1),bk:=D.nx } σ2 H2) (hd:∀σ H,Pv xs.length σ H→D.nx σ H) :
    ∃W:Nat→Nat→St→Hp→Prop,(∃m,W 0 m σ H)∧∀i m σ H,W i m σ H→
      ((Itl K a).stop i H∧D.nx σ H)∨((Itl K a).go i H∧∃N:St→Hp→Prop,(∀σ' H',N σ' H'→∃m',m'<m∧W (i+1) m' σ' H')∧∀x H',(Itl K a).yld i H x H'→g x σ H' fun σ2 H2=>tb { D with nx:=N,ct:=N,bk:=D.nx } σ2 H2):=by
  refine ⟨fun i m σ H=>m=xs.length-i∧i≤xs.length∧Pv i σ H,⟨xs.length,by simp,Nat.zero_le _,h0⟩,?_⟩
  rintro i m σ H ⟨rfl,hi,p⟩
  have q:=hl i σ H hi p
  by_cases hlt:i<xs.length
  · refine .inr ⟨⟨xs,xs[i],q,by simp [hlt]⟩,Pv (i+1),fun σ' H' p'=>⟨xs.length-(i+1),by omega,rfl,hlt,p'⟩,fun x H' y=>?_⟩
    obtain ⟨e,y⟩:=y
    subst e
    exact hs i x σ _ (y xs q) p
  · have e:i=xs.length:=by omega
    subst e
    exact .inl ⟨⟨xs,q,Nat.le_refl _⟩,hd σ H p⟩
theorem zbl {lo:Int} {n:Nat} {g:TG} {tb:TS} {D:Ends} {σ:St} {H:Hp} (Pv:Nat→St→Hp→Prop) (h0:Pv 0 σ H)
    (hs:∀i σ H,i<n→Pv i σ H→g (.int (lo+i)) σ H fun σ2 H2=>tb { D with nx:=Pv (i+1),ct:=Pv (i+1),bk:=D.nx } σ2 H2) (hd:∀σ H,Pv n σ H→D.nx σ H) :
    ∃W:Nat→Nat→St→Hp→Prop,(∃m,W 0 m σ H)∧∀i m σ H,W i m σ H→
      ((Itr lo n).stop i H∧D.nx σ H)∨((Itr lo n).go i H∧∃N:St→Hp→Prop,(∀σ' H',N σ' H'→∃m',m'<m∧W (i+1) m' σ' H')∧∀x H',(Itr lo n).yld i H x H'→g x σ H' fun σ2 H2=>tb { D with nx:=N,ct:=N,bk:=D.nx } σ2 H2):=by
  refine ⟨fun i m σ H=>m=n-i∧i≤n∧Pv i σ H,⟨n,by simp,Nat.zero_le _,h0⟩,?_⟩
  rintro i m σ H ⟨rfl,hi,p⟩
  by_cases hlt:i<n
  · refine .inr ⟨hlt,Pv (i+1),fun σ' H' p'=>⟨n-(i+1),by omega,rfl,hlt,p'⟩,fun x H' y=>?_⟩
    obtain ⟨e,y⟩:=y
    subst e y
    exact hs i σ _ hlt p
  · have e:i=n:=by omega
    subst e
    exact .inl ⟨Nat.le_refl _,hd σ H p⟩
end L2
namespace L2
open PySem PySem.Spec PyProof.Rows
abbrev R2:=V→V→Hp→VK→Prop
def OpR (X:Cx) (f:Value→Value→Sem Value) (r:R2):Prop :=
  ∀(pins:List (Addr×Obj)) (s:Shared) (σ:St) (H:Hp) (x y:V) (v u:Value) (Q:VK),Inv X pins σ H s→RelV x v→RelV y u→r x y H Q→
    wpAny (model X.prog X.w) X.A (f v u) (EP X pins σ Q) X.xe s
def UnR (X:Cx) (f:Value→Sem Value) (r:V→Hp→VK→Prop):Prop :=
  ∀(pins:List (Addr×Obj)) (s:Shared) (σ:St) (H:Hp) (x:V) (v:Value) (Q:VK),Inv X pins σ H s→RelV x v→r x H Q→
    wpAny (model X.prog X.w) X.A (f v) (EP X pins σ Q) X.xe s
def zbG (X:Cx) (f:Value) (r:List V→Hp→VK→Prop):Prop :=
  ∀(pins:List (Addr×Obj)) (s:Shared) (σ:St) (H:Hp) (xs:List V) (us:List Value) (Q:VK),Inv X pins σ H s→Vals xs us→r xs H Q→
    wpAny (model X.prog X.w) X.A (call f us) (EP X pins σ Q) X.xe s
def tOp (r:R2) (ta tb:TE):TE:=fun σ H Q=>ta σ H fun x H1=>tb σ H1 fun y H2=>r x y H2 Q
def tUn (r:V→Hp→VK→Prop) (ta:TE):TE:=fun σ H Q=>ta σ H fun x H1=>r x H1 Q
def rI (C:Int→Int→Prop) (g:Int→Int→V):R2:=fun x y H Q=>∃i j,x = .int i∧y = .int j∧C i j∧Q (g i j) H
def rI0 (g:Int→Int→V):R2:=fun x y H Q=>∃i j,x = .int i∧y = .int j∧Q (g i j) H
def rU (g:Int→V):V→Hp→VK→Prop:=fun x H Q=>∃i,x = .int i∧Q (g i) H
section
variable {X:Cx} {a b c:Expr} {ta tb tc:TE} {pos:Pos}
theorem binT (ha:PE X a ta) (hb:PE X b tb) {pins:List (Addr×Obj)} {s:Shared} {σ:St} {H:Hp} {R:V→V→Hp→Prop} (I:Inv X pins σ H s)
    (h:ta σ H fun x H1=>tb σ H1 fun y H2=>R x y H2) {Q:Value→Shared→Prop} {f:Value→Value→Sem Value}
    (hf:∀v u s2 x y H2,Inv X pins σ H2 s2→RelV x v→RelV y u→R x y H2→wpAny (model X.prog X.w) X.A (f v u) Q X.xe s2) :
    wpAny (model X.prog X.w) X.A (eval a X.env) (fun v s₁=>wpAny (model X.prog X.w) X.A (eval b X.env) (fun u s₂=>wpAny (model X.prog X.w) X.A (f v u) Q X.xe s₂) X.xe s₁) X.xe s:=by
  refine thn (ha pins s σ H _ I h) fun v s1 ⟨x,H1,I1,r1,q1⟩=>?_
  refine thn (hb pins s1 σ H1 _ I1 q1) fun u s2 ⟨y,H2,I2,r2,q2⟩=>?_
  exact hf v u s2 x y H2 I2 r1 r2 q2
theorem yag {op:Operator} {r:R2} (ho:OpR X (binaryOp op) r) (ha:PE X a ta) (hb:PE X b tb):PE X (.BinOp a op b pos) (tOp r ta tb):=by
  intro pins s σ H Q I h
  exact wpAny_BinOp (binT ha hb I h fun v u s2 x y H2 I2 rx ry q=>ho pins s2 σ H2 x y v u Q I2 rx ry q)
theorem yd3 {op:UnaryOp} {r:V→Hp→VK→Prop} (ho:UnR X (unaryOp op) r) (ha:PE X a ta):PE X (.UnaryOp op a pos) (tUn r ta):=by
  intro pins s σ H Q I h
  exact UnaryOp_ (thn (ha pins s σ H _ I h) fun v s1 ⟨x,H1,I1,r1,q1⟩=>ho pins s1 σ H1 x v Q I1 r1 q1)
theorem opI {f:Value→Value→Sem Value} {C:Int→Int→Prop} {g:Int→Int→Int}
    (rule:∀(i j:Int) (t u:Tok) (s:Shared) (Q:Value→Shared→Prop) (E:Value→Shared→Prop),C i j→Q (.int (g i j) s.toks) { s with toks:=s.toks+1 }→wpAny (model X.prog X.w) X.A (f (.int i t) (.int j u)) Q E s) :
    OpR X f (rI C fun i j=>.int (g i j)):=by
  intro pins s σ H x y v u Q I rx ry h
  obtain ⟨i,j,rfl,rfl,hc,q⟩:=h
  obtain ⟨t,rfl⟩:=rx
  obtain ⟨t',rfl⟩:=ry
  exact rule i j t t' s _ _ hc ⟨.int (g i j),H,I.tok _,⟨_,rfl⟩,q⟩
theorem opI0 {f:Value→Value→Sem Value} {g:Int→Int→Int}
    (rule:∀(i j:Int) (t u:Tok) (s:Shared) (Q:Value→Shared→Prop) (E:Value→Shared→Prop),Q (.int (g i j) s.toks) { s with toks:=s.toks+1 }→wpAny (model X.prog X.w) X.A (f (.int i t) (.int j u)) Q E s) :
    OpR X f (rI0 fun i j=>.int (g i j)):=by
  intro pins s σ H x y v u Q I rx ry h
  obtain ⟨i,j,rfl,rfl,q⟩:=h
  obtain ⟨t,rfl⟩:=rx
  obtain ⟨t',rfl⟩:=ry
  exact rule i j t t' s _ _ ⟨.int (g i j),H,I.tok _,⟨_,rfl⟩,q⟩
theorem opB0 {f:Value→Value→Sem Value} {g:Int→Int→Bool}
    (rule:∀(i j:Int) (t u:Tok) (s:Shared) (Q:Value→Shared→Prop) (E:Value→Shared→Prop),Q (.bool (g i j)) s→wpAny (model X.prog X.w) X.A (f (.int i t) (.int j u)) Q E s) :
    OpR X f (rI0 fun i j=>.bl (g i j)):=by
  intro pins s σ H x y v u Q I rx ry h
  obtain ⟨i,j,rfl,rfl,q⟩:=h
  obtain ⟨t,rfl⟩:=rx
  obtain ⟨t',rfl⟩:=ry
  exact rule i j t t' s _ _ ⟨.bl (g i j),H,I,rfl,q⟩
def CPow (i j:Int):Prop:=0≤j∧j≤1000000∧i.natAbs<2^64
def CMul (i j:Int):Prop:=(-(2^64)<i∧i<2^64)∨(-(2^64)<j∧j<2^64)
theorem CMul.ok {i j:Int} (h:CMul i j):IntMulOk i j:=by
  rcases h with ⟨h1,h2⟩ | ⟨h1,h2⟩
  · exact .of_left (intBits_le_64 h1 h2)
  · exact .of_right (intBits_le_64 h1 h2)
theorem yas:OpR X (binaryOp .Add) (rI0 fun i j=>.int (i+j)):=opI0 fun _ _ _ _ _ _ _ q=>add_int q
theorem yaU:OpR X (binaryOp .Sub) (rI0 fun i j=>.int (i-j)):=opI0 fun _ _ _ _ _ _ _ q=>sub_int q
theorem ya4:OpR X (binaryOp .Mult) (rI CMul fun i j=>.int (i*j)):=opI fun _ _ _ _ _ _ _ hc q=>mul_int q hc.ok
theorem yaB:OpR X (binaryOp .Mod) (rI (fun _ j=>0<j) fun i j=>.int (i%j)):=opI fun i j _ _ _ _ _ hc q=>by
  have h1:(0:Int)<j:=hc
  exact mod_int' (by omega) (by rw [Int.fmod_eq_emod_of_nonneg i (by omega)];exact q)
theorem yeh:OpR X (binaryOp .Pow) (rI CPow fun i j=>.int (i^j.toNat)):=opI fun _ _ _ _ _ _ _ hc q=>pow_int_small hc.1 hc.2.1 hc.2.2 q
theorem ydO:OpR X (inplaceOp .Add) (rI0 fun i j=>.int (i+j)):=opI0 fun _ _ _ _ _ _ _ q=>iadd_int q
theorem zgm:OpR X (inplaceOp .Sub) (rI0 fun i j=>.int (i-j)):=opI0 fun _ _ _ _ _ _ _ q=>isub_int q
theorem ydK:OpR X (inplaceOp .Mult) (rI CMul fun i j=>.int (i*j)):=opI fun _ _ _ _ _ _ _ hc q=>imul_int q hc.ok
theorem unI {f:Value→Sem Value} {g:Int→Int}
    (rule:∀(i:Int) (t:Tok) (s:Shared) (Q:Value→Shared→Prop) (E:Value→Shared→Prop),Q (.int (g i) s.toks) { s with toks:=s.toks+1 }→wpAny (model X.prog X.w) X.A (f (.int i t)) Q E s) :
    UnR X f (rU fun i=>.int (g i)):=by
  intro pins s σ H x v Q I rx h
  obtain ⟨i,rfl,q⟩:=h
  obtain ⟨t,rfl⟩:=rx
  exact rule i t s _ _ ⟨.int (g i),H,I.tok _,⟨_,rfl⟩,q⟩
theorem ycA:UnR X (unaryOp .USub) (rU fun i=>.int (-i)):=unI fun _ _ _ _ _ q=>neg_int q
end
def scal:V→V→Bool
  | .non,.non=>true | .non,.int _=>true | .int _,.non=>true | .non,.bl _=>true | .bl _,.non=>true | .non,.str _=>true | .str _,.non=>true
  | .int _,.int _=>true | .bl _,.bl _=>true | .str _,.str _=>true | .byt _,.byt _=>true
  | .int _,.str _=>true | .str _,.int _=>true | .bl _,.str _=>true | .str _,.bl _=>true
  | _,_=>false
def rEq:R2:=fun x y H Q=>scal x y=true∧Q (.bl (decide (x=y))) H
def rNe:R2:=fun x y H Q=>scal x y=true∧Q (.bl (!decide (x=y))) H
theorem ze7 {i j:Int}:decide (V.int i=V.int j)=(i==j):=by
  rw [Bool.eq_iff_iff]
  simp
theorem zf4 {i j:Bool}:decide (V.bl i=V.bl j)=(i==j):=by
  rw [Bool.eq_iff_iff]
  simp
theorem yeV {i j:Str}:decide (V.str i=V.str j)=(i==j):=by
  rw [Bool.eq_iff_iff]
  simp
theorem zfi {i j:Array UInt8}:decide (V.byt i=V.byt j)=(i.toList==j.toList):=by
  rw [Bool.eq_iff_iff]
  cases i
  cases j
  simp
section
variable {X:Cx} {a b c:Expr} {ta tb tc:TE} {pos:Pos}
theorem yat {pins:List (Addr×Obj)} {σ:St} {H:Hp} {s:Shared} {Q:VK} {k k':Bool} (I:Inv X pins σ H s) (q:Q (.bl k) H) (e:k=k'):EP X pins σ Q (.bool k') s:=by
  subst e
  exact ⟨.bl k,H,I,rfl,q⟩
theorem ybw:OpR X (compareOp .Eq) rEq:=by
  intro pins s σ H x y v u Q I rx ry h
  obtain ⟨hs,q⟩:=h
  cases x with
  | non =>
    cases rx
    cases y with
    | non=>cases ry;exact PySem.EqNone.eq_none_none (yat I q (by simp))
    | bl j=>cases ry;exact PySem.EqNone.eq_none_bool (yat I q (by simp))
    | int j=>obtain ⟨t',rfl⟩:=ry;exact PySem.EqNone.eq_none_int (yat I q (by simp))
    | str j=>obtain ⟨t',rfl⟩:=ry;exact PySem.EqNone.eq_none_str (yat I q (by simp))
    | _=>exact absurd (show false=true from hs) Bool.false_ne_true
  | bl i =>
    cases rx
    cases y with
    | non=>cases ry;exact PySem.EqNone.eq_bool_none (yat I q (by simp))
    | bl j=>cases ry;exact eq_bool (yat I q zf4)
    | str j=>obtain ⟨t',rfl⟩:=ry;exact PySem.EqMixed.eq_bool_str (yat I q (by simp))
    | _=>exact absurd (show false=true from hs) Bool.false_ne_true
  | int i =>
    obtain ⟨t,rfl⟩:=rx
    cases y with
    | non=>cases ry;exact PySem.EqNone.eq_int_none (yat I q (by simp))
    | int j=>obtain ⟨t',rfl⟩:=ry;exact eq_int (yat I q ze7)
    | str j=>obtain ⟨t',rfl⟩:=ry;exact PySem.EqMixed.eq_int_str (yat I q (by simp))
    | _=>exact absurd (show false=true from hs) Bool.false_ne_true
  | str i =>
    obtain ⟨t,rfl⟩:=rx
    cases y with
    | non=>cases ry;exact PySem.EqNone.eq_str_none (yat I q (by simp))
    | bl j=>cases ry;exact PySem.EqMixed.eq_str_bool (yat I q (by simp))
    | int j=>obtain ⟨t',rfl⟩:=ry;exact PySem.EqMixed.eq_str_int (yat I q (by simp))
    | str j=>obtain ⟨t',rfl⟩:=ry;exact eq_str (yat I q yeV)
    | _=>exact absurd (show false=true from hs) Bool.false_ne_true
  | byt i =>
    obtain ⟨t,rfl⟩:=rx
    cases y with
    | byt j=>obtain ⟨t',rfl⟩:=ry;exact PySem.W.eq_bytes (yat I q zfi)
    | _=>exact absurd (show false=true from hs) Bool.false_ne_true
  | _=>cases y <;> exact absurd (show false=true from hs) Bool.false_ne_true
theorem zd5:OpR X (compareOp .NotEq) rNe:=by
  intro pins s σ H x y v u Q I rx ry h
  obtain ⟨hs,q⟩:=h
  cases x with
  | non =>
    cases rx
    cases y with
    | non=>cases ry;exact PySem.EqNone.ne_none_none (yat I q (by simp))
    | bl j=>cases ry;exact PySem.EqNone.ne_none_bool (yat I q (by simp))
    | int j=>obtain ⟨t',rfl⟩:=ry;exact PySem.EqNone.ne_none_int (yat I q (by simp))
    | str j=>obtain ⟨t',rfl⟩:=ry;exact PySem.EqNone.ne_none_str (yat I q (by simp))
    | _=>exact absurd (show false=true from hs) Bool.false_ne_true
  | bl i =>
    cases rx
    cases y with
    | non=>cases ry;exact PySem.EqNone.ne_bool_none (yat I q (by simp))
    | bl j=>cases ry;exact ne_bool (yat I q (congrArg not zf4))
    | str j=>obtain ⟨t',rfl⟩:=ry;exact PySem.EqMixed.ne_bool_str (yat I q (by simp))
    | _=>exact absurd (show false=true from hs) Bool.false_ne_true
  | int i =>
    obtain ⟨t,rfl⟩:=rx
    cases y with
    | non=>cases ry;exact PySem.EqNone.ne_int_none (yat I q (by simp))
    | int j=>obtain ⟨t',rfl⟩:=ry;exact ne_int (yat I q (congrArg not ze7))
    | str j=>obtain ⟨t',rfl⟩:=ry;exact PySem.EqMixed.ne_int_str (yat I q (by simp))
    | _=>exact absurd (show false=true from hs) Bool.false_ne_true
  | str i =>
    obtain ⟨t,rfl⟩:=rx
    cases y with
    | non=>cases ry;exact PySem.EqNone.ne_str_none (yat I q (by simp))
    | bl j=>cases ry;exact PySem.EqMixed.ne_str_bool (yat I q (by simp))
    | int j=>obtain ⟨t',rfl⟩:=ry;exact PySem.EqMixed.ne_str_int (yat I q (by simp))
    | str j=>obtain ⟨t',rfl⟩:=ry;exact ne_str (yat I q (congrArg not yeV))
    | _=>exact absurd (show false=true from hs) Bool.false_ne_true
  | byt i =>
    obtain ⟨t,rfl⟩:=rx
    cases y with
    | byt j=>obtain ⟨t',rfl⟩:=ry;exact PySem.W.ne_bytes (yat I q (congrArg not zfi))
    | _=>exact absurd (show false=true from hs) Bool.false_ne_true
  | _=>cases y <;> exact absurd (show false=true from hs) Bool.false_ne_true
theorem zgA:OpR X (compareOp .Lt) (rI0 fun i j=>.bl (decide (i<j))):=opB0 fun _ _ _ _ _ _ _ q=>lt_int q
theorem ygP:OpR X (compareOp .LtE) (rI0 fun i j=>.bl (decide (i≤j))):=opB0 fun _ _ _ _ _ _ _ q=>le_int q
theorem zbJ:OpR X (compareOp .Gt) (rI0 fun i j=>.bl (decide (j<i))):=opB0 fun _ _ _ _ _ _ _ q=>gt_int q
theorem zhs:OpR X (compareOp .GtE) (rI0 fun i j=>.bl (decide (j≤i))):=opB0 fun _ _ _ _ _ _ _ q=>ge_int q
theorem zam (b:Expr) {op:CmpOp} (h:op≠.In:=by decide) (h2:op≠.NotIn:=by decide):behindInMarks op b=false:=by
  have e1:(op==CmpOp.In)=false:=by cases op <;> first|rfl|exact absurd rfl h
  have e2:(op==CmpOp.NotIn)=false:=by cases op <;> first|rfl|exact absurd rfl h2
  cases b <;> simp [behindInMarks,e1,e2]
theorem ydR {op:CmpOp} {r:R2} (ho:OpR X (compareOp op) r) (ha:PE X a ta) (hb:PE X b tb) (hm:behindInMarks op b=false):PE X (.Compare a [op] [b] pos) (tOp r ta tb):=by
  intro pins s σ H Q I h
  exact wpAny_Compare1 (binT ha hb I h fun v u s2 x y H2 I2 rx ry q=>ho pins s2 σ H2 x y v u Q I2 rx ry q) hm
def zhn (t:TE):TT:=fun σ H Q=>t σ H fun x H'=>∃k,x = .bl k∧Q k H'
theorem zaj {op:CmpOp} {r:R2} (ho:OpR X (compareOp op) r) (ha:PE X a ta) (hb:PE X b tb) (hm:behindInMarks op b=false):PT X (.Compare a [op] [b] pos) (zhn (tOp r ta tb)):=by
  intro pins s σ H Q I h
  refine wpAny_isTrue_Compare1 (thn (ha pins s σ H _ I h) fun v s1 ⟨x,H1,I1,r1,q1⟩=>thn (hb pins s1 σ H1 _ I1 q1) fun u s2 ⟨y,H2,I2,r2,q2⟩ =>
    thn (ho pins s2 σ H2 x y v u _ I2 r1 r2 q2) fun c s3 ⟨z,H3,I3,r3,k,e,q3⟩=>?_) hm
  subst e
  cases r3
  exact wpAny_truthy_bool ⟨H3,I3,q3⟩
theorem zet:(sizeLine:Nat)<2^63:=by rw [sizeLine_eq];decide
theorem zcv {x:V} {us:List Value} (r:Vals [x] us):∃u,us=[u]∧RelV x u:=by
  cases r with
  | cons r1 r2=>cases r2;exact ⟨_,rfl,r1⟩
theorem ygI {x y:V} {us:List Value} (r:Vals [x,y] us):∃u w',us=[u,w']∧RelV x u∧RelV y w':=by
  cases r with
  | cons r1 r2 =>
    cases r2 with
    | cons r3 r4=>cases r4;exact ⟨_,_,rfl,r1,r3⟩
theorem yee:zbG X (.builtin "abs") (fun xs H Q=>∃i,xs=[.int i]∧Q (.int (if i<0 then -i else i)) H):=by
  intro pins s σ H xs us Q I r h
  obtain ⟨i,rfl,q⟩:=h
  obtain ⟨u,rfl,t,rfl⟩:=zcv r
  exact call_abs_int fun u tk=>⟨.int (if i<0 then -i else i),H,I.tok _,⟨_,rfl⟩,q⟩
theorem zfs (hc:X.calm=true):zbG X (.builtin "max") (fun xs H Q=>∃i j,xs=[.int i,.int j]∧Q (.int (if j>i then j else i)) H):=by
  intro pins s σ H xs us Q I r h
  obtain ⟨i,j,rfl,q⟩:=h
  obtain ⟨u,w',rfl,⟨t,rfl⟩,⟨t',rfl⟩⟩:=ygI r
  refine max_two_ints (I.ok.hd hc) fun h' tk k=>⟨_,H,I.kept k,?_,q⟩
  by_cases hj:j>i
  · rw [if_pos hj,if_pos hj];exact ⟨_,rfl⟩
  · rw [if_neg hj,if_neg hj];exact ⟨_,rfl⟩
theorem yfl (hc:X.calm=true):zbG X (.builtin "min") (fun xs H Q=>∃i j,xs=[.int i,.int j]∧Q (.int (if j<i then j else i)) H):=by
  intro pins s σ H xs us Q I r h
  obtain ⟨i,j,rfl,q⟩:=h
  obtain ⟨u,w',rfl,⟨t,rfl⟩,⟨t',rfl⟩⟩:=ygI r
  refine min_two_ints (I.ok.hd hc) fun h' tk k=>⟨_,H,I.kept k,?_,q⟩
  by_cases hj:j<i
  · rw [if_pos hj,if_pos hj];exact ⟨_,rfl⟩
  · rw [if_neg hj,if_neg hj];exact ⟨_,rfl⟩
theorem ycq:zbG X (.type "int") (fun xs H Q=>(∃i,xs=[.int i]∧Q (.int i) H)∨∃k,xs=[.bl k]∧Q (.int (if k then 1 else 0)) H):=by
  intro pins s σ H xs us Q I r h
  rcases h with ⟨i,rfl,q⟩ | ⟨k,rfl,q⟩
  · obtain ⟨u,rfl,t,rfl⟩:=zcv r
    exact call_int_int ⟨.int i,H,I,⟨_,rfl⟩,q⟩
  · obtain ⟨u,rfl,r1⟩:=zcv r
    cases r1
    exact call_int_bool ⟨.int (if k then 1 else 0),H,I.tok _,⟨_,rfl⟩,q⟩
end
end L2
namespace L2
open PySem PySem.Spec PyProof.Rows
structure ObjM (h:Heap) (x dx C:Addr) (mA:Str→Option Value):Prop where
  obj:h.get? x=some (PySem.W.instObj C dx)
  ns:h.Ns1 dx mA
  ne:dx≠x
section
variable {prog:Program} {w:World} {A:Around} {E:Value→Shared→Prop} {s:Shared} {K:PySem.W.Frag} {x dx C f:Addr} {mA:Str→Option Value} {name:Str} {v:Value}
end
theorem RelO.some_of {v:V} {o:Option Value} (r:RelO (some v) o):∃u,o=some u∧RelV v u:=by
  cases o with
  | none=>exact (show False from r).elim
  | some u=>exact ⟨u,rfl,r⟩
section
variable {P:Program} {w:World} {H H':Hp} {h h':Heap} {a C dx:Addr} {fs fs':List (Str×V)}
end
structure Cls (K:PySem.W.Frag) (C:Addr):Prop where
  pg:PySem.W.plainGet K C Str.empty=true
  hd:PySem.W.hasDictIn K C=true
  po:PySem.W.plainOver K C=true
  sa:PySem.W.findIn K (.ref C) "__setattr__"=some (some (.builtin "object.__setattr__"))
structure Con (K:PySem.W.Frag) (C:Addr) (f:Str) (v:V) (u:Value):Prop where
  at_:PySem.W.findIn K (.ref C) f=some (some u)
  rel:RelV v u
  get:PySem.W.specialIn K u "__get__"=some none
  cp:PySem.W.copiedNames.contains f=false
structure Meth (K:PySem.W.Frag) (C:Addr) (m:Str) (f:Addr):Prop where
  at_:PySem.W.findIn K (.ref C) m=some (some (.ref f))
  fn:PySem.W.isFn K (.ref f)=true
  kp:PySem.W.keepIn K (.ref f)=true
section
variable {X:Cx} {pins:List (Addr×Obj)} {σ:St} {H:Hp} {s:Shared} {a C dx:Addr} {fs:List (Str×V)} {f:Str} {v:V} {A:Around} {E:Value→Shared→Prop}
end
section
variable {X:Cx} {o e value:Expr} {f:Str} {pos pos' tpos:Pos} {ta tv:TE}
end
section
variable {X:Cx} {pins:List (Addr×Obj)} {σ:St} {H:Hp} {s:Shared} {A:Around} {E:Value→Shared→Prop} {Q:Value→Shared→Prop} {c:Value} {b:Bool}
inductive TyOf (K:PySem.W.Frag) (H:Hp):V→Value→Prop where
  | non:TyOf K H .non (.type "NoneType")
  | bl (x:Bool):TyOf K H (.bl x) (.type "bool")
  | int (i:Int):TyOf K H (.int i) (.type "int")
  | str (x:Str):TyOf K H (.str x) (.type "str")
  | flt (x:UInt64):TyOf K H (.flt x) (.type "float")
  | lst {a:Addr} {xs:List V} (e:H a=some (.lst xs)):TyOf K H (.ref a) (.type "list")
  | frz {a:Addr} {o:Obj} {xs:List V} (e:H a=some (.frz o (.lst xs))):TyOf K H (.ref a) (.type "list")
  | tup {a:Addr} {xs:List V} (e:H a=some (.tup xs)):TyOf K H (.ref a) (.type "tuple")
  | dK {a:Addr} {kvs:List (Key×V)} (e:H a=some (.dK kvs)):TyOf K H (.ref a) (.type "dict")
  | dT {a:Addr} {kvs:List (List Key×V)} (e:H a=some (.dT kvs)):TyOf K H (.ref a) (.type "dict")
  | ins {a C dx:Addr} {fs:List (Str×V)} (e:H a=some (.ins C dx fs)) (cl:Cls K C) (ha:PySem.W.findIn K (.ref C) "__class__"=some (some (.builtin "object.__class__")))
      (hn:PySem.W.specialIn K (.builtin "object.__class__") "__get__"=some (some (.builtin "getset_descriptor.__get__"))) (htk:PySem.W.takesIn K (.builtin "object.__class__")=some true)
      (hm:PySem.W.mroIn K C (.type "object")=some true):TyOf K H (.ref a) (.ref C)
end
end L2
namespace L2
open PySem PySem.Spec PyProof.Rows
structure Room (k:Nat) (A:Around):Prop where
  hd:A.handled=none
  dp:A.depth+3*k+5<recursionLimit
  un:A.units+16*k+200<cLine
  gd:A.guards=some []
theorem Room.mono {j k:Nat} {A:Around} (r:Room k A) (h:j≤k):Room j A:=⟨r.hd,by have:=r.dp;omega,by have:=r.un;omega,r.gd⟩
theorem Room.deeper {k:Nat} {A:Around} (r:Room (k+1) A) (env:Env):Room k (A.deeper env) :=
  ⟨r.hd,by have:=r.dp;show A.depth+1+3*k+5<_;omega,by have:=r.un;show A.units+3+16*k+200<_;omega,r.gd⟩
theorem Room.depth {k:Nat} {A:Around} (r:Room k A):A.depth<recursionLimit:=by have:=r.dp;omega
theorem Room.units {k:Nat} {A:Around} (r:Room k A):A.units+64<cLine:=by have:=r.un;omega
theorem Room.units0 {k:Nat} {A:Around} (r:Room k A):A.units<cLine:=by have:=r.un;omega
def tNil:TA:=fun _ H Q=>Q [] H
def zcE (ta:TE) (tr:TA):TA:=fun σ H Q=>ta σ H fun x H1=>tr σ H1 fun xs H2=>Q (x::xs) H2
section
variable {X:Cx} {e:Expr} {es:List Expr} {te:TE} {t:TA} {pos:Pos}
theorem yab:PA X [] tNil:=fun _ _ _ _ H Q I h=>Calls.spliced_nil ⟨[],H,I,.nil,h⟩
theorem zaa (ha:PE X e te) (hr:PA X es t) (hs:starEach (e::es) X.env=(false,eval e X.env)::starEach es X.env:=by rfl):PA X (e::es) (zcE te t):=by
  intro pos pins s σ H Q I h
  rw [hs]
  show wpAny _ _ (spliced ((false,eval e X.env)::backTo pos (starEach es X.env))) _ _ s
  refine Calls.spliced_cons (thn (ha pins s σ H _ I h) fun u s1 ⟨x,H1,I1,r1,q1⟩=>?_)
  exact thn (hr pos pins s1 σ H1 _ I1 q1) fun us s2 ⟨xs,H2,I2,r2,q2⟩=>⟨x::xs,H2,I2,.cons r1 r2,q2⟩
def tTup (t:TA):TE:=fun σ H Q=>t σ H fun xs H1=>xs.length≤sizeLine∧∀p,H1 p=none→Q (.ref p) (upd H1 p (.tup xs))
def tLst (t:TA):TE:=fun σ H Q=>t σ H fun xs H1=>xs.length≤sizeLine∧∀p,H1 p=none→Q (.ref p) (upd H1 p (.lst xs))
theorem yaQ {x1} (h:PA X es t):PE X (.Tuple es x1 pos) (tTup t):=by
  intro pins s σ H Q I hq
  refine wpAny_Tuple_spliced (thn (h pos pins s σ H _ I hq) fun us s1 ⟨xs,H1,I1,r,z,q⟩=>⟨by rw [←r.length];exact z,?_⟩)
  have hf:H1 s1.heap.objs.size=none:=I1.hok.fresh (Nat.le_refl _)
  refine ⟨.ref s1.heap.objs.size,upd H1 s1.heap.objs.size (.tup xs),I1.laid (t':=s1.toks) (fun b u e=>Heap.get?_push_of_some _ e) (Nat.le_refl _) ?_,rfl,q _ hf⟩
  exact ⟨z,us,r,⟨_,Heap.get?_push_size _ rfl,rfl,_,rfl⟩⟩
theorem zaK (h:PA X es t):PE X (.List es pos) (tLst t):=by
  intro pins s σ H Q I hq
  refine wpAny_List_spliced (thn (h pos pins s σ H _ I hq) fun us s1 ⟨xs,H1,I1,r,z,q⟩=>⟨by rw [←r.length];exact z,?_⟩)
  have hf:H1 s1.heap.objs.size=none:=I1.hok.fresh (Nat.le_refl _)
  refine ⟨.ref s1.heap.objs.size,upd H1 s1.heap.objs.size (.lst xs),I1.laid (t':=s1.toks) (fun b u e=>Heap.get?_push_of_some _ e) (Nat.le_refl _) ?_,rfl,q _ hf⟩
  exact ⟨z,us,0,r,Heap.get?_push_size _ rfl⟩
end
abbrev Sp:=List V→Hp→VK→XK→Prop
abbrev CXT:=List Env→Hp→Shared→XK→Value→Shared→Prop
structure Env0 (P:Program) (w:World) (K:PySem.W.Frag) (mg:Str→Option Value) (base:Heap) (A:Around) (outer:List Env) (s:Shared) (H:Hp):Prop where
  frames:A.frames=some outer
  mod:Mod K mg base
  bs:∀b o,base.get? b=some o→s.heap.get? b=some o∧H b=none
  bsz:base.objs.size≤s.heap.objs.size
  funs:s.heap.FunFrames base outer
  frf:∀b∈frs outer,H b=none
  hok:HOk P w H s.heap
  bare:AllBare s.gens
def CE (outer:List Env) (P:Program) (w:World) (H:Hp) (s:Shared) (Q:VK) (u:Value) (s':Shared):Prop :=
  ∃v H',s'.os=s.os∧AllBare s'.gens∧Un (frs outer) [] H H' s.heap s'.heap∧HOk P w H' s'.heap∧RelV v u∧Q v H'
def CR (CX:CXT) (outer:List Env) (P:Program) (w:World) (H:Hp) (s:Shared) (Q:VK) (E:XK) (r:Result) (s':Shared):Prop :=
  match r with
  | .ok (.ret u)=>CE outer P w H s Q u s'
  | .ok _=>False
  | .error e=>CX outer H s E e s'
structure FnOk (P:Program) (w:World) (K:PySem.W.Frag) (mg:Str→Option Value) (base:Heap) (CX:CXT) (k:Nat) (f:Addr) (fd:FuncData) (ps:List Str) (sp:Sp):Prop where
  len:∀vs H Q E,sp vs H Q E→vs.length=ps.length
  run:∀(A:Around) (outer:List Env) (s:Shared) (H:Hp) (args:Args) (us:List Value) (vs:List V) (Q:VK) (E:XK),Room k A→Env0 P w K mg base A outer s H→BindsTo s fd args (ps.zip us)→Vals vs us→sp vs H Q E→
    codeAny (model P w) A (.call (.ref f) args) (CR CX outer P w H s Q E) s
theorem FnOk.imp {P:Program} {w:World} {K:PySem.W.Frag} {mg:Str→Option Value} {base:Heap} {CX:CXT} {k:Nat} {f:Addr} {fd:FuncData} {ps:List Str} {sp sp':Sp} (F:FnOk P w K mg base CX k f fd ps sp)
    (h:∀vs H Q E,sp' vs H Q E→sp vs H Q E):FnOk P w K mg base CX k f fd ps sp' :=
  ⟨fun vs H Q E q=>F.len vs H Q E (h _ _ _ _ q),fun A outer s H args us vs Q E hr he hb hv hs=>F.run A outer s H args us vs Q E hr he hb hv (h _ _ _ _ hs)⟩
section
variable {X:Cx} {pins:List (Addr×Obj)} {σ:St} {H:Hp} {s s':Shared}
theorem Inv.env0 (I:Inv X pins σ H s):Env0 X.prog X.w X.K X.mg X.base X.A X.stack s H :=
  ⟨I.ok.frames,I.ok.mod,I.bs,Nat.le_trans I.ok.bsz I.sz,I.stack,I.stkFree,I.hok,I.bare⟩
theorem Inv.after {Q:VK} {u:Value} (I:Inv X pins σ H s) (h:CE X.stack X.prog X.w H s Q u s'):EP X pins σ Q u s':=by
  obtain ⟨v,H',os,bare,un,hok,r,q⟩:=h
  obtain ⟨hh,g,d,t,os'⟩:=s'
  obtain rfl:os'=s.os:=os
  exact ⟨v,H',I.call (h':=hh) (g':=g) (d':=d) (t':=t) (ch:=[]) un hok bare (fun b z=>absurd z (by simp)),r,q⟩
end
def ygk (sp:Sp) (dvs:List V) (E:XK) (t:TA):TE:=fun σ H Q=>t σ H fun vs H1=>sp (vs++dvs) H1 Q E
def zdT (K:PySem.W.Frag) (fd:FuncData) (ps:List Str) (ds:List Value):Prop :=
  ∀(s:Shared) (us:List Value),K.In s.heap→(us++ds).length=ps.length→BindsTo s fd ⟨us,[]⟩ (ps.zip (us++ds))
theorem zdT.all {K:PySem.W.Frag} {fd:FuncData} {ps:List Str} (h:∀us:List Value,us.length=ps.length→bindArgs fd ⟨us,[]⟩=pure (ps.zip us)):zdT K fd ps []:=fun s us _ hl=>by
  rw [List.append_nil] at hl ⊢
  exact .of_eq (h us hl)
def zfq (CX:CXT) (X:Cx) (E:XK):Prop:=∀(pins:List (Addr×Obj)) (σ:St) (H:Hp) (s:Shared) (e:Value) (s':Shared),Inv X pins σ H s→CX X.stack H s E e s'→X.xe e s'
section
variable {X:Cx} {CX:CXT} {k:Nat} {f C:Addr} {fd:FuncData} {ps:List Str} {sp:Sp} {dvs:List V} {ds:List Value} {E:XK} {x m:Str} {p pos apos:Pos} {e o:Expr} {es:List Expr} {ta:TE} {t:TA}
theorem ygY {pins:List (Addr×Obj)} {σ:St} {H:Hp} {s:Shared} {Q:VK} {us:List Value} {vs:List V} (F:FnOk X.prog X.w X.K X.mg X.base CX k f fd ps sp) (hr:Room k X.A) (hb:zdT X.K fd ps ds) (hd:Vals dvs ds) (hx:zfq CX X E)
    (I:Inv X pins σ H s) (r:Vals vs us) (h:sp (vs++dvs) H Q E):wpAny (model X.prog X.w) X.A (call (.ref f) us) (EP X pins σ Q) X.xe s:=by
  have r2:Vals (vs++dvs) (us++ds):=r.append hd
  have hl:(us++ds).length=ps.length:=by rw [←r2.length];exact F.len _ _ _ _ h
  refine wpAny_call (codeAny_mono (F.run X.A X.stack s H ⟨us,[]⟩ (us++ds) (vs++dvs) Q E hr I.env0 (hb s us I.kIn hl) r2 h) fun r s' hq=>?_)
  cases r with
  | error e=>exact hx pins σ H s e s' I hq
  | ok fl =>
    cases fl with
    | ret u=>exact I.after hq
    | next=>exact False.elim hq
    | brk=>exact False.elim hq
    | cont=>exact False.elim hq
theorem zgG (F:FnOk X.prog X.w X.K X.mg X.base CX k f fd ps sp) (hr:Room k X.A) (hg:Gl X x) (hm:X.mg x=some (.ref f)) (hk:PySem.W.keepIn X.K (.ref f)=true) (hb:zdT X.K fd ps ds) (hd:Vals dvs ds) (hx:zfq CX X E)
    (ha:PA X (e::es) t) (hdb:(x==("__debug__":Str))=false:=by decide) (he:starEach (e::es) X.env=(false,eval e X.env)::starEach es X.env:=by rfl) (hpl:(backTo pos (starEach es X.env)).any (·.1)=false:=by rfl) :
    PE X (.Call (.Name x p) (e::es) [] pos) (ygk sp dvs E t):=by
  intro pins s σ H Q I h
  refine wpAny_Call_Name_kw (zct I hg hm ?_ hdb)
  refine PySem.W.callWith_K (h₀:=X.base) I.ok.mod.kin hk (thn (ha pos pins s σ H _ I h) fun us s1 ⟨vs,H1,I1,r,q⟩=>⟨I1.kIn,?_⟩) he hpl
  exact ygY F hr hb hd hx I1 r q
structure Mk (K:PySem.W.Frag) (C f:Addr):Prop where
  makes:PySem.W.makesIn K C=true
  init:PySem.W.findIn K (.ref C) "__init__"=some (some (.ref f))
  fn:PySem.W.isFn K (.ref f)=true
  kp:PySem.W.keepIn K (.ref C)=true
end
section
variable {X:Cx} {CX:CXT} {k:Nat} {f C:Addr} {fd:FuncData} {ps ks:List Str} {sp:Sp} {E:XK} {x m:Str} {p pos apos kpos:Pos} {e o:Expr} {es:List Expr} {kws:List Keyword} {te ta:TE} {t tk:TA} {nm:Option Str}
structure KBinds (K:PySem.W.Frag) (fd:FuncData) (ps ks:List Str) (g:List Value→List Value→List Value) (gV:List V→List V→List V):Prop where
  to:∀(s:Shared) (us ws:List Value),K.In s.heap→(g us ws).length=ps.length→BindsTo s fd ⟨us,ks.zip ws⟩ (ps.zip (g us ws))
  rel:∀ {vs:List V} {us:List Value} {zs:List V} {ws:List Value},Vals vs us→Vals zs ws→Vals (gV vs zs) (g us ws)
variable {g:List Value→List Value→List Value} {gV:List V→List V→List V}
end
structure yaj (N P:List Str) (sc:Scope):Prop where
  kind:sc.kind = .function
  co:sc.isCoroutine=false
  gen:sc.isGenerator=false
  nd:N.Nodup
  pre:N.take P.length=P
  par:∀x∈P,sc.names.lookup x=some .local∨sc.names.lookup x=some .cell
  nofree:∀y∈sc.names,y.2≠.free
theorem zdC {kindOf:Str→Option NameKind} {x:Str}:∀ {binds:List (Str×Value)} {m:Str→Option Value},(∀v,(x,v)∉binds)→bindL kindOf binds m x=m x
  | [],_,_=>rfl
  | (n,v)::r,m,h=>by
    unfold bindL
    rw [zdC fun w hw=>h w (List.mem_cons_of_mem _ hw)]
    split
    · have:x≠n:=by rintro rfl;exact h v List.mem_cons_self
      simp [this]
    · rfl
theorem zdJ {kindOf:Str→Option NameKind} {x:Str}:∀ {binds:List (Str×Value)} {m:Str→Option Value},(∀v,(x,v)∉binds)→bindC kindOf binds m x=m x
  | [],_,_=>rfl
  | (n,v)::r,m,h=>by
    unfold bindC
    rw [zdJ fun w hw=>h w (List.mem_cons_of_mem _ hw)]
    split
    · rfl
    · have:x≠n:=by rintro rfl;exact h v List.mem_cons_self
      simp [this]
theorem zdm {kindOf:Str→Option NameKind} {x:Str} {v:Value}:∀ {P:List Str} {vs:List Value} {i:Nat} {m:Str→Option Value},P.Nodup→P[i]?=some x→vs[i]?=some v→kindOf x=some .local→
    bindL kindOf (P.zip vs) m x=some v
  | [],_,_,_,_,h,_,_=>by simp at h
  | _::_,[],_,_,_,_,h,_=>by simp at h
  | p::P,w::vs,0,m,nd,h1,h2,hk=>by
    simp at h1 h2;subst h1;subst h2
    show bindL kindOf ((p,w)::P.zip vs) m p=_
    unfold bindL
    rw [zdC fun v hv=>(List.nodup_cons.mp nd).1 (List.of_mem_zip hv).1,if_pos hk]
    simp
  | p::P,w::vs,i+1,m,nd,h1,h2,hk=>by
    show bindL kindOf ((p,w)::P.zip vs) m x=_
    unfold bindL
    exact zdm (i:=i) (List.nodup_cons.mp nd).2 (by simpa using h1) (by simpa using h2) hk
theorem ydC {kindOf:Str→Option NameKind} {x:Str} {v:Value}:∀ {P:List Str} {vs:List Value} {i:Nat} {m:Str→Option Value},P.Nodup→P[i]?=some x→vs[i]?=some v→kindOf x≠some .local→
    bindC kindOf (P.zip vs) m x=some v
  | [],_,_,_,_,h,_,_=>by simp at h
  | _::_,[],_,_,_,_,h,_=>by simp at h
  | p::P,w::vs,0,m,nd,h1,h2,hk=>by
    simp at h1 h2;subst h1;subst h2
    show bindC kindOf ((p,w)::P.zip vs) m p=_
    unfold bindC
    rw [zdJ fun v hv=>(List.nodup_cons.mp nd).1 (List.of_mem_zip hv).1,if_neg hk]
    simp
  | p::P,w::vs,i+1,m,nd,h1,h2,hk=>by
    show bindC kindOf ((p,w)::P.zip vs) m x=_
    unfold bindC
    exact ydC (i:=i) (List.nodup_cons.mp nd).2 (by simpa using h1) (by simpa using h2) hk
def zc8 (N:List Str) (vs:List V):St:=vs.map some++List.replicate (N.length-vs.length) none
def cxOf (CX:CXT) (P:Program) (w:World) (K:PySem.W.Frag) (mg:Str→Option Value) (base:Heap) (N:List Str) (qual:Str) (scope:Scope) (f:Addr) (cd:Value) (A:Around) (outer:List Env) (s:Shared) (H:Hp) (E:XK):Cx where
  prog:=P
  w:=w
  K:=K
  mg:=mg
  base:=base
  A:=A.deeper (envOfC qual scope s.heap.objs.size f cd)
  N:=N
  s₀:=s
  H₀:=H
  env:=envOfC qual scope s.heap.objs.size f cd
  outer:=outer
  stack:=envOfC qual scope s.heap.objs.size f cd::outer
  ex:=[]
  calm:=true
  fn:=fun _=>true
  pn:=[]
  xe:=fun e s'=>wpAny (model P w) (A.deeper (envOfC qual scope s.heap.objs.size f cd)) (leaving (envOfC qual scope s.heap.objs.size f cd) e) (fun _ s''=>CX outer H s E e s'') (fun e' s''=>CX outer H s E e' s'') s'
theorem yed {sc:Scope} {n:Nat} {x:Str} (h:sc.names.lookup x=some .cell):∃c,(cellsFrom n sc.names []).lookup x=some c:=by
  have q:=PySem.W.cellsFrom_some sc.names n [] (.inl h)
  exact Option.isSome_iff_exists.mp q
theorem ye1 {CX:CXT} {P:Program} {w:World} {K:PySem.W.Frag} {mg:Str→Option Value} {base:Heap} {N ps:List Str} {qual:Str} {scope:Scope} {f:Addr} {cd:Value} {A:Around} {outer:List Env} {s s1:Shared} {H:Hp} {E:XK} {us:List Value} {vs:List V}
    (S:yaj N ps scope) (hd:A.handled=none) (e0:Env0 P w K mg base A outer s H) (hl:vs.length=ps.length) (r:Vals vs us)
    (x:InCallC s s.heap.objs.size (bindL (envOfC qual scope s.heap.objs.size f cd).kindOf (ps.zip us) fun _=>none) (cellsFrom (s.heap.objs.size+1) scope.names []) (bindC (envOfC qual scope s.heap.objs.size f cd).kindOf (ps.zip us) fun _=>none) s1) :
    Inv (cxOf CX P w K mg base N qual scope f cd A outer s H E) [] (zc8 N vs) H s1:=by
  have hpl:ps.length≤N.length:=by have:=congrArg List.length S.pre;rw [List.length_take] at this;omega
  obtain ⟨h1,tk,rfl,hk⟩:=x.done
  have noA:∀b:Addr,b∉(cxOf CX P w K mg base N qual scope f cd A outer s H E).ex:=fun b z=>absurd (show b∈([]:List Addr) from z) (by simp)
  refine ⟨⟨e0.mod,S.kind,rfl,rfl,Nat.le_refl _,fun y z c h1 h2=>?_,fun y hy=>?_,fun y c _ h=>?_,fun _=>hd,Around.frames_deeper e0.frames,.inr ⟨rfl,rfl⟩,fun b z=>absurd z (noA b),e0.bs,e0.bsz,fun b _ _=>noA b,fun b z=>absurd z (noA b),e0.funs,e0.frf⟩,
    rfl,e0.bare,Un.kept hk,⟨_,x.toInCall.ns,fun i y v h1 h2 h3=>?_⟩,fun y c h=>⟨_,x.cell y c h⟩,e0.hok.fresh (Nat.le_refl _),fun y c h=>?_,fun p hp=>absurd (show p∈([]:List (Addr×Obj)) from hp) (by simp),e0.hok.kept hk,?_⟩
  · exact name_of_addr x.apart (PySem.mem_of_lookup h1) (PySem.mem_of_lookup h2)
  · have hy:scope.names.lookup y=some .cell∨scope.names.lookup y=some .free:=hy
    rcases hy with hy|hy
    · exact yed hy
    · exact absurd rfl (S.nofree _ (PySem.mem_of_lookup hy))
  · exact Nat.le_of_lt (x.above y c (PySem.mem_of_lookup h))
  · have hi:i<vs.length:=by
      unfold zc8 at h2
      by_cases hi:i<vs.length
      · exact hi
      · rw [List.getElem?_append_right (by simpa using hi)] at h2
        rw [List.getElem?_replicate] at h2
        split at h2 <;> cases h2
    have ha:vs[i]?=some v:=by
      unfold zc8 at h2
      rw [List.getElem?_append_left (by simpa using hi),List.getElem?_map] at h2
      cases e:vs[i]? with
      | none=>rw [e] at h2;cases h2
      | some a=>rw [e] at h2;cases h2;rfl
    obtain ⟨u,hu,rv⟩:=r.get ha
    have hp:ps[i]?=some y:=by
      rw [←S.pre,List.getElem?_take_of_lt (by omega)];exact h1
    have ndP:ps.Nodup:=by rw [←S.pre];exact S.nd.sublist (List.take_sublist _ _)
    refine ⟨u,rv,?_⟩
    rcases S.par y (List.mem_of_getElem? hp) with k|k
    · exact .inl ⟨k,zdm ndP hp hu k⟩
    · obtain ⟨c,e⟩:=yed (n:=s.heap.objs.size+1) k
      refine .inr ⟨.inl k,c,e,?_⟩
      have q:=x.cell y c e
      rw [ydC ndP hp hu (by show scope.names.lookup y≠_;rw [k];decide)] at q
      exact q
  · exact e0.hok.fresh (Nat.le_of_lt (x.above y c (PySem.mem_of_lookup h)))
  · unfold zc8
    show _=N.length
    rw [List.length_append,List.length_map,List.length_replicate]
    omega
theorem zg2 {CX:CXT} {P:Program} {w:World} {K:PySem.W.Frag} {mg:Str→Option Value} {base:Heap} {k:Nat} {f:Addr} {name qual:Str} {params:Arguments} {body:List Stmt} {scope:Scope} {dV kV doc pm cdv ct oc:Value} {an od:Option Addr}
    {osl:Array (Option Value)} {N ps:List Str} {sp:Sp} (lk:K.lookup f=some ⟨oc,od,.func (PySem.W.fnOf name qual params body scope dV kV doc pm an cdv ct),osl⟩) (hcd:PySem.W.codeIn K cdv qual=true) (S:yaj N ps scope)
    (len:∀vs H Q E,sp vs H Q E→vs.length=ps.length)
    (hbody:∀(A:Around) (outer:List Env) (s:Shared) (H:Hp) (vs:List V) (Q:VK) (E:XK),Room k (A.deeper (envOfC qual scope s.heap.objs.size f cdv))→sp vs H Q E→
      ∃t,PSs (cxOf CX P w K mg base N qual scope f cdv A outer s H E) body t∧t { nx:=fun _ H'=>Q .non H',rt:=Q } (zc8 N vs) H) :
    FnOk P w K mg base CX (k+1) f (PySem.W.fnOf name qual params body scope dV kV doc pm an cdv ct) ps sp:=by
  refine ⟨len,fun A outer s H args us vs Q E hr e0 hb r hsp=>?_⟩
  have hl:=len _ _ _ _ hsp
  have KX:K.In s.heap:=e0.mod.kin.keeps fun b o e=>(e0.bs b o e).1
  have lim:s.heap.NoLimit:=e0.mod.nolimit.keeps fun b o e=>(e0.bs b o e).1
  have hkind:∀y∈ps.zip us,scope.names.lookup y.1=some .local∨(scope.names.lookup y.1=some .cell∧((cellsFrom (s.heap.objs.size+1) scope.names []).lookup y.1).isSome=true):=fun ⟨n,v⟩ hy=>by
    rcases S.par n (List.of_mem_zip hy).1 with q|q
    · exact .inl q
    · exact .inr ⟨q,PySem.W.cellsFrom_some _ _ _ (.inl q)⟩
  refine codeAny_call_function hr.depth (KX _ _ lk) rfl S.co S.gen rfl (PySem.W.codeRec_of KX hcd) (hb _ _ _ _ ?_)
  refine wpAny_newFunctionEnv_cells S.kind hkind fun env he s1 x=>?_
  subst he
  refine ⟨lim.keeps x.toInCall.keep,codeAny_func ?_⟩
  obtain ⟨t,ht,hq⟩:=hbody A outer s H vs Q E (hr.deeper _) hsp
  have I:Inv (cxOf CX P w K mg base N qual scope f cdv A outer s H E) [] (zc8 N vs) H s1:=ye1 S hr.hd e0 hl r x
  refine wpAny_mono (ht [] s1 (zc8 N vs) H _ I hq) (fun fl s' hs=>?_) fun e s' hs=>hs
  have fin:∀ {σ':St} {H':Hp} {v:V} {u:Value},Inv (cxOf CX P w K mg base N qual scope f cdv A outer s H E) [] σ' H' s'→RelV v u→Q v H'→CE outer P w H s Q u s' :=
    fun {σ' H' v u} J rv q=>⟨v,H',J.os,J.bare,J.base,J.hok,rv,q⟩
  cases fl with
  | ret u =>
    obtain ⟨v,σ',H',J,rv,q⟩:=hs
    exact fin J rv q
  | next =>
    obtain ⟨σ',H',J,q⟩:=hs
    exact fin (v:=V.non) (u:=Value.none) J rfl q
  | brk =>
    obtain ⟨_,_,_,q⟩:=hs
    exact False.elim q
  | cont =>
    obtain ⟨_,_,_,q⟩:=hs
    exact False.elim q
end L2
namespace L2
open PySem PySem.Spec PyProof.Rows
section
variable {X:Cx} {x:Str} {p pos:Pos} {e:Expr} {es:List Expr} {t:TA} {id T:String} {r:List V→Hp→VK→Prop}
def tCB (r:List V→Hp→VK→Prop) (t:TA):TE:=fun σ H Q=>t σ H fun vs H1=>r vs H1 Q
theorem zan (hc:zbG X (.builtin id) r) (hg:Gl X x) (hm:X.mg x=none) (hv:bootBuiltins x=some (.builtin id)) (ha:PA X (e::es) t) (hn:x≠"__name__":=by decide) (hdb:(x==("__debug__":Str))=false:=by decide)
    (he:starEach (e::es) X.env=(false,eval e X.env)::starEach es X.env:=by rfl) (hpl:(backTo pos (starEach es X.env)).any (·.1)=false:=by rfl):PE X (.Call (.Name x p) (e::es) [] pos) (tCB r t):=by
  intro pins s σ H Q I h
  refine wpAny_Call_Name_kw (ybu I hg hm hv ?_ hn hdb)
  exact PyProof.Rows.callWith_builtin1 (thn (ha pos pins s σ H _ I h) fun us s1 ⟨vs,H1,I1,r1,q1⟩=>hc pins s1 σ H1 vs us Q I1 r1 q1) he hpl
theorem zat (hc:zbG X (.type T) r) (hg:Gl X x) (hm:X.mg x=none) (hv:bootBuiltins x=some (.type T)) (ha:PA X (e::es) t) (hn:x≠"__name__":=by decide) (hdb:(x==("__debug__":Str))=false:=by decide)
    (he:starEach (e::es) X.env=(false,eval e X.env)::starEach es X.env:=by rfl) (hpl:(backTo pos (starEach es X.env)).any (·.1)=false:=by rfl):PE X (.Call (.Name x p) (e::es) [] pos) (tCB r t):=by
  intro pins s σ H Q I h
  refine wpAny_Call_Name_kw (ybu I hg hm hv ?_ hn hdb)
  exact PyProof.Rows.callWith_type1 (thn (ha pos pins s σ H _ I h) fun us s1 ⟨vs,H1,I1,r1,q1⟩=>hc pins s1 σ H1 vs us Q I1 r1 q1) he hpl
end
end L2
namespace HT
open PySem PyProof.Rows
section
open PySem.SeqAt
open PySem.AutoSeq1 (wpAny_loadPart')
open PySem.MeetsSeq PySem.MeetsSeq2 PySem.MeetsSeq3
end
section
variable {prog:Program} {w:World} {A:Around} {E:Value→Shared→Prop} {s:Shared}
theorem cat_tup {t b:Addr} {vs ws:List Value} {Q:Value→Shared→Prop} (ht:IsTup s.heap t vs.toArray) (hb:IsTup s.heap b ws.toArray) (hv:vs≠[])
    (h1:ws=[]→Q (.ref t) s) (h2:ws≠[]→Q (.ref s.heap.objs.size) { s with heap:=s.heap.push { cls:=.type "tuple",data:=.seq (vs++ws).toArray } })
    (hsz:vs.length+ws.length≤sizeLine):wpAny (model prog w) A (binaryOp .Add (.ref t) (.ref b)) Q E s:=by
  obtain ⟨⟨cls,dd,data,sl⟩,ho,hc,n,hd⟩:=id ht
  obtain ⟨⟨cls2,dd2,data2,sl2⟩,ho2,hc2,n2,hd2⟩:=id hb
  simp only at hc hd hc2 hd2
  subst hc hd hc2 hd2
  have e:vs.toArray++ws.toArray=(vs++ws).toArray:=by simp
  by_cases hw:ws=[]
  · exact concat_meets ⟨_,ho,rfl⟩ ⟨_,ho2,rfl⟩ noFill_tuple_add seq_tuple_add PySem.F.slot_tuple_add PySem.F.entry_tuple_add (PySem.F.args_tuple_add_2 _ _)
      (tuple_addW1 t b vs.toArray ws.toArray n n2 dd dd2 sl sl2 (by simpa using hv) (by simp [hw])) ⟨ho,ho2,h1 hw⟩
  · refine concat_meets ⟨_,ho,rfl⟩ ⟨_,ho2,rfl⟩ noFill_tuple_add seq_tuple_add PySem.F.slot_tuple_add PySem.F.entry_tuple_add (PySem.F.args_tuple_add_2 _ _)
      (tuple_addW2 t b vs.toArray ws.toArray n n2 dd dd2 sl sl2 (by simpa using hv) (by simpa using hw) (by rw [List.size_toArray,List.size_toArray];exact hsz)) ⟨ho,ho2,?_⟩
    rw [e]
    exact h2 hw
def sIx (n d:Nat):Option Int→Nat
  | none=>d
  | some v=>if v<0 then (v+(n:Int)).toNat else min v.toNat n
theorem sIx_none (n d:Nat):sIx n d none=d:=rfl
theorem sIx_nat (n d k:Nat):sIx n d (some (k:Int))=min k n:=by
  show (if (k:Int)<0 then ((k:Int)+(n:Int)).toNat else min (k:Int).toNat n)=min k n
  rw [if_neg (by omega),Int.toNat_natCast]
theorem ygS (n d:Nat) (hd:d≤n) (o:Option Int):sIx n d o≤n:=by
  cases o with
  | none=>exact hd
  | some v =>
    show (if v<0 then (v+(n:Int)).toNat else min v.toNat n)≤n
    by_cases hv:v<0
    · rw [if_pos hv];omega
    · rw [if_neg hv];exact Nat.min_le_right _ _
theorem yfh (v:Int) (n d:Nat):(if v<0 then max (v+(n:Int)) 0 else min v (n:Int))=((sIx n d (some v):Nat):Int):=by
  show (if v<0 then max (v+(n:Int)) 0 else min v (n:Int))=(((if v<0 then (v+(n:Int)).toNat else min v.toNat n):Nat):Int)
  by_cases hv:v<0
  · simp only [if_pos hv];omega
  · simp only [if_neg hv];omega
theorem zeH (lo hi:Option Int) (n:Nat):Builtin.Slice.sliceAdjust lo hi 1 (n:Int)=(((sIx n 0 lo:Nat):Int),((sIx n n hi:Nat):Int)):=by
  have h1:¬ ((1:Int)<0):=by omega
  unfold Builtin.Slice.sliceAdjust
  simp only [h1,if_false]
  refine Prod.ext ?_ ?_
  · cases lo with
    | none=>rfl
    | some v=>exact yfh v n 0
  · cases hi with
    | none=>rfl
    | some v=>exact yfh v n n
theorem zez (i j:Nat):Builtin.Slice.slicePlaces (i:Int) (j:Int) 1=j-i:=by
  unfold Builtin.Slice.slicePlaces
  have h1:(1:Int)>0:=by omega
  simp only [h1,if_true,Int.ediv_one]
  split <;> omega
theorem zcQ {v:Value} {o:Option Int} {Q:Option Int→Shared→Prop} (p:IsPart v o) (h:Q o s):wpAny (model prog w) A (Builtin.Slice.slicePartIndex v) Q E s:=by
  cases p with
  | none=>exact slicePart_none h
  | int i t=>exact slicePart_int h
theorem zbu {sl:Addr} {vl vu:Value} {lo hi:Option Int} {n:Nat} {Q:Int×Int×Nat→Shared→Prop} (hs:s.heap.IsSliceOf sl vl vu .none) (pl:IsPart vl lo) (pu:IsPart vu hi)
    (h:Q (((sIx n 0 lo:Nat):Int),1,sIx n n hi-sIx n 0 lo) s):wpAny (model prog w) A (Builtin.Slice.sliceApplied (.ref sl) (pure (n:Int))) Q E s:=by
  obtain ⟨os,hos,hcs,hds⟩:=id hs
  unfold Builtin.Slice.sliceApplied Builtin.Slice.sliceFields
  refine wpAny_bind (wpAny_bind (wpAny_field hos hds (x:=vl) rfl (wpAny_bind (wpAny_field hos hds (x:=vu) rfl (wpAny_bind (wpAny_field hos hds (x:=.none) rfl (wpAny_pure ?_)))))))
  refine wpAny_bind (slicePart_none ?_)
  show wpAny _ _ (if ((1:Int)==0)=true then _ else _) _ _ s
  rw [if_neg (by decide)]
  refine wpAny_bind (zcQ pl (wpAny_bind (zcQ pu (wpAny_bind (wpAny_pure ?_)))))
  show wpAny _ _ (match Builtin.Slice.sliceAdjust lo hi 1 (n:Int) with|(lo,hi)=>pure (lo,(1:Int),Builtin.Slice.slicePlaces lo hi 1)) _ _ s
  rw [zeH lo hi n]
  show wpAny _ _ (pure (((sIx n 0 lo:Nat):Int),(1:Int),Builtin.Slice.slicePlaces ((sIx n 0 lo:Nat):Int) ((sIx n n hi:Nat):Int) 1)) _ _ s
  rw [zez]
  exact wpAny_pure h
theorem zfV (xs:Array Value) (i k:Nat):((List.range k).filterMap fun (m:Nat)=>xs[((i:Int)+(m:Int)*1).toNat]?).toArray=((xs.toList.drop i).take k).toArray:=by
  have e:(fun (m:Nat)=>xs[((i:Int)+(m:Int)*1).toNat]?)=fun m=>xs[i+m]?:=by
    funext m
    have:((i:Int)+(m:Int)*1).toNat=i+m:=by omega
    rw [this]
  rw [e]
  have:=pick_run xs i k
  rw [List.filterMap_map] at this
  have e2:((fun x=>xs[x]?) ∘ fun x=>i+x)=fun m=>xs[i+m]?:=rfl
  rw [e2] at this
  rw [this]
theorem getItem_tuple_cut {t sl:Addr} {items:Array Value} {vl vu:Value} {lo hi:Option Int} {Q:Value→Shared→Prop} (ht:IsTup s.heap t items) (hs:s.heap.IsSliceOf sl vl vu .none) (pl:IsPart vl lo) (pu:IsPart vu hi)
    (hw:¬ (sIx items.size 0 lo=0∧sIx items.size items.size hi=items.size))
    (h:Q (.ref s.heap.objs.size) { s with heap:=s.heap.push { cls:=.type "tuple",data:=.seq ((items.toList.drop (sIx items.size 0 lo)).take (sIx items.size items.size hi-sIx items.size 0 lo)).toArray } })
    (hsz:items.size≤sizeLine):wpAny (model prog w) A (getItem (.ref t) (.ref sl)) Q E s:=by
  have htake:sizeOk (.seq ((items.toList.drop (sIx items.size 0 lo)).take (sIx items.size items.size hi-sIx items.size 0 lo)).toArray):=by
    show ((items.toList.drop (sIx items.size 0 lo)).take (sIx items.size items.size hi-sIx items.size 0 lo)).toArray.size≤sizeLine
    rw [List.size_toArray,List.length_take,List.length_drop,Array.length_toList]
    omega
  have hj:sIx items.size items.size hi≤items.size:=ygS _ _ (Nat.le_refl _) hi
  obtain ⟨os,hos,hcs,hds⟩:=id hs
  have hTs:s.TypeIs (.ref sl) "slice":=⟨os,hos,hcs⟩
  unfold getItem
  try with_reducible refine wpAny_holding ?_
  first|refine wpAny_bind (wpAny_pure ?_)|skip
  refine wpAny_bind (wpAny_sequenceKey ht.typeIs (by decide) ?_)
  refine wpAny_bind (wpAny_callSpecial?_slot (name:=Str.ofString "__getitem__") ht.typeIs PyProof.Rows.slot_tuple_getitem
    (wpAny_call_entry PyProof.Rows.slot_tuple_getitem ht.typeIs entry_tuple_getitem ?_ (args_tuple_getitem _ _)))
  show wpAny _ _ (Builtin.Tuple.tupleItemsOf (.ref t) >>= _) _ _ s
  refine wpAny_bind (tupleItemsOf_ ht ?_)
  refine wpAny_bind (wpAny_typeOf hTs ?_)
  rw [if_pos (by decide)]
  refine wpAny_bind (zbu hs pl pu ?_)
  have hno:¬ ((((sIx items.size 0 lo:Nat):Int)==0&&(1:Int)==1&&(sIx items.size items.size hi-sIx items.size 0 lo)==items.size)=true):=by
    intro q
    rw [Bool.and_eq_true,Bool.and_eq_true] at q
    have q1:((sIx items.size 0 lo:Nat):Int)=0:=eq_of_beq q.1.1
    have q2:sIx items.size items.size hi-sIx items.size 0 lo=items.size:=eq_of_beq q.2
    exact hw ⟨by omega,by omega⟩
  show wpAny _ _ (if (((sIx items.size 0 lo:Nat):Int)==0&&(1:Int)==1&&(sIx items.size items.size hi-sIx items.size 0 lo)==items.size)=true then _ else _) _ _ s
  rw [if_neg hno,zfV]
  first
    | exact wpAny_bind (m:=Builtin.Tuple.tupleExact _) (wpAny_newObj_type (wpAny_pure ⟨_,rfl,wpAny_pure h⟩) htake)
    | exact wpAny_bind (m:=Builtin.Tuple.tupleExact _) (wpAny_newObj_type (wpAny_bind (wpAny_pure (wpAny_pure ⟨_,rfl,wpAny_pure h⟩))) htake)
    | exact wpAny_bind (wpAny_bind (m:=Builtin.Tuple.tupleExact _) (wpAny_newObj_type (wpAny_pure (wpAny_pure ⟨_,rfl,wpAny_pure h⟩)) htake))
    | exact wpAny_bind (wpAny_bind (m:=Builtin.Tuple.tupleExact _) (wpAny_newObj_type (wpAny_pure ⟨_,rfl,wpAny_pure h⟩) htake))
end
end HT
namespace L2
open PySem PySem.Spec PyProof.Rows
abbrev TO:=St→Hp→(Option Int→Hp→Prop)→Prop
def PO (X:Cx) (e:Option Expr) (t:TO):Prop :=
  ∀(pins:List (Addr×Obj)) (s:Shared) (σ:St) (H:Hp) (Q:Option Int→Hp→Prop),Inv X pins σ H s→t σ H Q→
    wpAny (model X.prog X.w) X.A (evalPart e X.env) (fun u s'=>∃o H',Inv X pins σ H' s'∧IsPart u o∧Q o H') X.xe s
def ygu:TO:=fun _ H Q=>Q none H
def zhg (t:TE):TO:=fun σ H Q=>t σ H fun x H1=>∃i,x = .int i∧Q (some i) H1
section
variable {X:Cx} {e:Expr} {te:TE} {lo hi:Option Expr} {tl th:TO} {pos p2:Pos}
theorem zde:PO X none ygu:=by
  intro pins s σ H Q I h
  rw [evalPart_none]
  exact wpAny_pure ⟨none,H,I,.none,h⟩
theorem ydb (h:PE X e te):PO X (some e) (zhg te):=by
  intro pins s σ H Q I hw
  rw [evalPart_some]
  refine thn (h pins s σ H _ I hw) fun u s1 ⟨x,H1,I1,r1,q1⟩=>?_
  obtain ⟨i,rfl,q⟩:=q1
  obtain ⟨t,rfl⟩:=r1
  exact ⟨some i,H1,I1,.int i t,q⟩
def SlR (X:Cx) (r:V→Option Int→Option Int→Hp→VK→Prop):Prop :=
  ∀(pins:List (Addr×Obj)) (s:Shared) (σ:St) (H:Hp) (x:V) (v vl vu:Value) (lo hi:Option Int) (sl:Addr) (Q:VK),Inv X pins σ H s→RelV x v→s.heap.IsSliceOf sl vl vu .none→IsPart vl lo→IsPart vu hi→r x lo hi H Q→
    ∃T id,typeLookup (.type T) "__getitem__"=pure (some (.builtin id))∧s.TypeIs v T∧wpAny (model X.prog X.w) X.A (getItem v (.ref sl)) (EP X pins σ Q) X.xe s
theorem SlR.or {r r':V→Option Int→Option Int→Hp→VK→Prop} (h:SlR X r) (h':SlR X r'):SlR X (fun x lo hi H Q=>r x lo hi H Q∨r' x lo hi H Q):=by
  intro pins s σ H x v vl vu lo hi sl Q I rx hs pl pu q
  rcases q with q|q
  · exact h pins s σ H x v vl vu lo hi sl Q I rx hs pl pu q
  · exact h' pins s σ H x v vl vu lo hi sl Q I rx hs pl pu q
def tSl (r:V→Option Int→Option Int→Hp→VK→Prop) (te:TE) (tl th:TO):TE:=fun σ H Q=>te σ H fun x H1=>tl σ H1 fun l H2=>th σ H2 fun u H3=>r x l u H3 Q
theorem zcf {r:V→Option Int→Option Int→Hp→VK→Prop} (hr:SlR X r) (he:PE X e te) (hl:PO X lo tl) (hu:PO X hi th):PE X (.Subscript e (.Slice lo hi none p2) pos) (tSl r te tl th):=by
  intro pins s σ H Q I h
  refine Subscript_ (thn (he pins s σ H _ I h) fun v s1 ⟨x,H1,I1,r1,q1⟩=>?_)
  refine wpAny_Slice (thn (hl pins s1 σ H1 _ I1 q1) fun vl s2 ⟨l,H2,I2,pl,q2⟩=>thn (hu pins s2 σ H2 _ I2 q2) fun vu s3 ⟨u,H3,I3,pu,q3⟩=>?_)
  rw [evalPart_none]
  refine wpAny_pure ?_
  have I4:Inv X pins σ H3 { s3 with heap:=s3.heap.push { cls:=.type "slice",data:=.fields #[vl,vu,.none] } }:=I3.kept (t':=s3.toks) fun b ob q=>Heap.get?_push_of_some _ q
  obtain ⟨T,id,hT,ht,hg⟩:=hr pins { s3 with heap:=s3.heap.push { cls:=.type "slice",data:=.fields #[vl,vu,.none] } } σ H3 x v vl vu l u s3.heap.objs.size Q I4 r1 (Heap.IsSliceOf.new ..) pl pu q3
  show wpAny (model X.prog X.w) X.A (subscriptTail e (.Slice lo hi none p2) v (.ref s3.heap.objs.size)) (EP X pins σ Q) X.xe { s3 with heap:=s3.heap.push { cls:=.type "slice",data:=.fields #[vl,vu,.none] } }
  exact tail_any (ops:=[.ref s3.heap.objs.size,v]) ht hT hg (by with_unfolding_all rfl)
def cutV (xs:List V) (lo hi:Option Int):List V:=(xs.drop (HT.sIx xs.length 0 lo)).take (HT.sIx xs.length xs.length hi-HT.sIx xs.length 0 lo)
theorem ycj (xs:List V) (lo hi:Option Int):(cutV xs lo hi).length≤xs.length:=by
  unfold cutV
  rw [List.length_take,List.length_drop]
  omega
def rSlT (K:PySem.W.Frag):V→Option Int→Option Int→Hp→VK→Prop:=fun x lo hi H Q=>∃a xs,x = .ref a∧SqT K H a xs∧
  ¬ (HT.sIx xs.length 0 lo=0∧HT.sIx xs.length xs.length hi=xs.length)∧∀p,H p=none→Q (.ref p) (upd H p (.tup (cutV xs lo hi)))
theorem ygL:SlR X (rSlT X.K):=by
  intro pins s σ H x v vl vu lo hi sl Q I rx hs pl pu h
  obtain ⟨a,xs,rfl,hx,hw,q⟩:=h
  cases rx
  obtain ⟨its,r,ht,hz⟩:=I.tuple hx
  have hlen:its.toArray.size=xs.length:=by rw [List.size_toArray];exact r.length.symm
  refine ⟨"tuple",_,PyProof.Rows.slot_tuple_getitem.lookup,ht.typeIs,?_⟩
  refine HT.getItem_tuple_cut ht hs pl pu (by rw [hlen];exact hw) ?_ (by rw [hlen];exact hz)
  rw [hlen]
  refine ⟨.ref s.heap.objs.size,_,I.laid (t':=s.toks) (o:=.tup (cutV xs lo hi)) (fun b ob q=>Heap.get?_push_of_some _ q) (Nat.le_refl _) ?_,rfl,q _ (I.hok.fresh (Nat.le_refl _))⟩
  exact ⟨Nat.le_trans (ycj xs lo hi) hz,_,(r.drop (HT.sIx xs.length 0 lo)).take (HT.sIx xs.length xs.length hi-HT.sIx xs.length 0 lo),IsTup.new _ _⟩
def zhk (K:PySem.W.Frag):R2:=fun x y H Q=>∃a b xs ys,x = .ref a∧y = .ref b∧SqT K H a xs∧SqT K H b ys∧xs≠[]∧xs.length+ys.length≤sizeLine∧
  (ys=[]→Q (.ref a) H)∧(ys≠[]→∀p,H p=none→Q (.ref p) (upd H p (.tup (xs++ys))))
theorem Vals.nil_iff {xs:List V} {us:List Value} (r:Vals xs us):us=[]↔xs=[]:=by
  cases r with
  | nil=>simp
  | cons _ _=>simp
theorem ygr:OpR X (binaryOp .Add) (zhk X.K):=by
  intro pins s σ H x y v u Q I rx ry h
  obtain ⟨a,b,xs,ys,rfl,rfl,ha,hb,hx,hz,q1,q2⟩:=h
  cases rx
  cases ry
  obtain ⟨its,r1,p1,_⟩:=I.tuple ha
  obtain ⟨its2,r2,p2,_⟩:=I.tuple hb
  refine HT.cat_tup p1 p2 (fun z=>hx (r1.nil_iff.mp z)) (fun z=>⟨.ref a,H,I,rfl,q1 (r2.nil_iff.mp z)⟩) (fun z=>?_) (by rw [←r1.length,←r2.length];exact hz)
  refine ⟨.ref s.heap.objs.size,_,I.laid (t':=s.toks) (o:=.tup (xs++ys)) (fun b ob q=>Heap.get?_push_of_some _ q) (Nat.le_refl _) ?_,rfl,q2 (fun w=>z (r2.nil_iff.mpr w)) _ (I.hok.fresh (Nat.le_refl _))⟩
  exact ⟨by rw [List.length_append];exact hz,_,r1.append r2,IsTup.new _ _⟩
end
end L2
namespace L2
open PySem PySem.Spec PyProof.Rows
def ixN (n:Nat) (i:Int):Option Nat:=if 0≤i then (if i<n then some i.toNat else none) else if -(n:Int)≤i then some (i+n).toNat else none
def atI {α:Type} (xs:List α) (i:Int):Option α:=(ixN xs.length i).bind fun j=>xs[j]?
theorem zdO {n:Nat} {i:Int} {j:Nat} (h:ixN n i=some j):seqIndex? i n=some j∧j<n∧-(n:Int)≤i∧i<n:=by
  unfold ixN at h
  by_cases h0:0≤i
  · rw [if_pos h0] at h
    by_cases h1:i<n
    · rw [if_pos h1] at h
      have e:i.toNat=j:=Option.some.inj h
      exact ⟨by rw [seqIndex_of h0 h1,e],by omega,by omega,h1⟩
    · rw [if_neg h1] at h;cases h
  · rw [if_neg h0] at h
    by_cases h1 : -(n:Int)≤i
    · rw [if_pos h1] at h
      have e:(i+n).toNat=j:=Option.some.inj h
      exact ⟨by rw [seqIndex_neg (by omega) h1,e],by omega,h1,by omega⟩
    · rw [if_neg h1] at h;cases h
theorem zff {α:Type} {xs:List α} {i:Int} {v:α} (h:atI xs i=some v):∃j,seqIndex? i xs.length=some j∧xs[j]?=some v∧j<xs.length∧-(xs.length:Int)≤i∧i<xs.length:=by
  unfold atI at h
  cases e:ixN xs.length i with
  | none=>rw [e] at h;cases h
  | some j =>
    rw [e] at h
    obtain ⟨h1,h2,h3,h4⟩:=zdO e
    exact ⟨j,h1,h,h2,h3,h4⟩
theorem ybc {α:Type} {xs:List α} {j:Nat} {v:α} (h:xs[j]?=some v):atI xs (j:Int)=some v:=by
  have hj:j<xs.length:=(List.getElem?_eq_some_iff.mp h).1
  have e:ixN xs.length (j:Int)=some j:=by
    unfold ixN
    rw [if_pos (by omega),if_pos (by omega)];simp
  unfold atI;rw [e];exact h
def ygw (b:Expr):Prop:=∀o i,subscripted b false o i=operate [o,i] (getItem o i)
def IxR (X:Cx) (r:R2):Prop :=
  ∀(value slice:Expr) (pins:List (Addr×Obj)) (s:Shared) (σ:St) (H:Hp) (x y:V) (v u:Value) (Q:VK),Inv X pins σ H s→RelV x v→RelV y u→r x y H Q→
    subscripted slice false v u=operate [v,u] (getItem v u)→wpAny (model X.prog X.w) X.A (subscriptTail value slice v u) (EP X pins σ Q) X.xe s
def MtR (X:Cx) (id:String) (r:V→List V→Hp→VK→Prop):Prop :=
  ∀(pins:List (Addr×Obj)) (s:Shared) (σ:St) (H:Hp) (x:V) (xs:List V) (v:Value) (us:List Value) (Q:VK),Inv X pins σ H s→RelV x v→Vals xs us→r x xs H Q→
    wpAny (model X.prog X.w) X.A (call (.builtin id) (v::us)) (EP X pins σ Q) X.xe s
section
variable {X:Cx} {a b:Expr} {ta tb:TE} {pos:Pos}
theorem zao {r:R2} (hr:IxR X r) (ha:PE X a ta) (hb:PE X b tb) (hs:ygw b):PE X (.Subscript a b pos) (tOp r ta tb):=by
  intro pins s σ H Q I h
  exact Subscript_ (binT ha hb I h fun v u s2 x y H2 I2 rx ry q=>hr a b pins s2 σ H2 x y v u Q I2 rx ry q (hs _ _))
def rIxL (K:PySem.W.Frag):R2:=fun x y H Q=>∃p xs i v,x = .ref p∧y = .int i∧SqL K H p xs∧atI xs i=some v∧Q v H
def rIxT (K:PySem.W.Frag):R2:=fun x y H Q=>∃p xs i v,x = .ref p∧y = .int i∧SqT K H p xs∧atI xs i=some v∧Q v H
theorem yan:IxR X (rIxL X.K):=by
  intro value slice pins s σ H x y v u Q I rx ry h hs
  obtain ⟨p,xs,i,z,rfl,rfl,hq,he,q⟩:=h
  cases rx
  obtain ⟨t,rfl⟩:=ry
  obtain ⟨its,r,pl,hz⟩:=I.list hq
  obtain ⟨j,h1,h2,h3,h4,h5⟩:=zff he
  obtain ⟨w,ew,rw'⟩:=r.get h2
  have hl:=r.length
  have hn:=zet
  have fin:EP X pins σ Q w s:=⟨z,H,I,rw',q⟩
  by_cases h0:0≤i
  · have hj:i.toNat=j:=by
      rw [seqIndex_of h0 h5] at h1
      exact Option.some.inj h1
    exact item_listR pl.isList h0 (by omega) (by rw [hj];simpa using ew) fin hs
  · have hj:(i+(its.toArray.size:Int)).toNat=j:=by
      rw [seqIndex_neg (by omega) h4] at h1
      rw [List.size_toArray,←hl]
      exact Option.some.inj h1
    exact subscriptTail_builtinR (x:=w) pl.isList.typeIs slot_list_getitem.lookup
      (wpAny_getItem_list_neg (Q:=fun r s'=>r=w∧EP X pins σ Q r s') pl.isList (by omega) (by rw [List.size_toArray] <;> omega) (by omega) (by rw [hj];simpa using ew) ⟨rfl,fin⟩) hs
theorem yau:IxR X (rIxT X.K):=by
  intro value slice pins s σ H x y v u Q I rx ry h hs
  obtain ⟨p,xs,i,z,rfl,rfl,hq,he,q⟩:=h
  cases rx
  obtain ⟨t,rfl⟩:=ry
  obtain ⟨its,r,pl,hz⟩:=I.tuple hq
  obtain ⟨j,h1,h2,h3,h4,h5⟩:=zff he
  obtain ⟨w,ew,rw'⟩:=r.get h2
  have hl:=r.length
  have hn:=zet
  have fin:EP X pins σ Q w s:=⟨z,H,I,rw',q⟩
  exact subscriptTail_builtinR (x:=w) pl.typeIs slot_tuple_getitem.lookup
    (getItem_tuple (j:=j) (Q:=fun r s'=>r=w∧EP X pins σ Q r s') pl (by omega) (by omega) (by rw [List.size_toArray,←hl];exact h1) (by simpa using ew) ⟨rfl,fin⟩) hs
theorem yeu (its:List Value) (n j:Nat) (u:Value):Obj.mapSeq (·.setIfInBounds j u) { cls:=.type "list",data:=.seq its.toArray n }={ cls:=.type "list",data:=.seq (its.set j u).toArray n }:=by
  simp [Obj.mapSeq]
theorem Inv.lst {pins:List (Addr×Obj)} {σ:St} {H:Hp} {s:Shared} {p:Addr} {xs:List V} (I:Inv X pins σ H s) (h:H p=some (.lst xs)) :
    ∃(its:List Value) (n:Nat),Vals xs its∧s.heap.get? p=some { cls:=.type "list",data:=.seq its.toArray n }∧xs.length≤sizeLine:=by
  obtain ⟨z,its,n,r,e⟩:=I.hok p _ h
  exact ⟨its,n,r,e,z⟩
theorem Inv.lstUpd {pins:List (Addr×Obj)} {σ:St} {H:Hp} {s:Shared} {p:Addr} {xs ys:List V} {its its':List Value} {n n':Nat} {f:Obj→Obj} (I:Inv X pins σ H s) (h:H p=some (.lst xs))
    (ho:s.heap.get? p=some { cls:=.type "list",data:=.seq its.toArray n }) (hf:f { cls:=.type "list",data:=.seq its.toArray n }={ cls:=.type "list",data:=.seq its'.toArray n' }) (r:Vals ys its') (hz:ys.length≤sizeLine) (t:Nat) :
    Inv X pins σ (upd H p (.lst ys)) { s with heap:=s.heap.update p f,toks:=t }:=by
  have e:(s.heap.update p f).get? p=some { cls:=.type "list",data:=.seq its'.toArray n' }:=by
    rw [Heap.get?_update_self f ho (by rw [hf] <;> rfl),hf]
  refine I.write (x:=p) (e:=p) (by rw [h];trivial) (.inl rfl) (fun b u hb q=>(Heap.get?_update_other _ _ (Ne.symm hb)).trans q) ⟨_,e⟩ ?_
  exact ⟨hz,its',n',r,e⟩
def yhn:V→V→V→Hp→(Hp→Prop)→Prop:=fun o i v H Q=>∃p xs k j,o = .ref p∧i = .int k∧H p=some (.lst xs)∧ixN xs.length k=some j∧Q (upd H p (.lst (xs.set j v)))
theorem zbq:PSet X yhn:=by
  intro pins s σ H o i v ov iv u Q I ro ri rv h
  obtain ⟨p,xs,k,j,rfl,rfl,hp,hj,q⟩:=h
  cases ro
  obtain ⟨t,rfl⟩:=ri
  obtain ⟨its,n,r,ho,hz⟩:=I.lst hp
  obtain ⟨h1,h2,h3,h4⟩:=zdO hj
  have hl:=r.length
  have hn:=zet
  have I':Inv X pins σ (upd H p (.lst (xs.set j v))) { s with heap:=s.heap.update p (Obj.mapSeq (·.setIfInBounds j u)) } :=
    I.lstUpd hp ho (yeu its n j u) (r.set rv j) (by rw [List.length_set];exact hz) s.toks
  by_cases h0:0≤k
  · have hk:k.toNat=j:=by
      rw [seqIndex_of h0 h4] at h1
      exact Option.some.inj h1
    exact PySem.W.ki_setAt ho h0 (by omega) (by rw [List.size_toArray,←hl];exact h4) (by rw [hk];exact ⟨_,I',q⟩)
  · have hk:(k+(its.toArray.size:Int)).toNat=j:=by
      rw [seqIndex_neg (by omega) h3] at h1
      rw [List.size_toArray,←hl]
      exact Option.some.inj h1
    exact PySem.W.ki_setBack ho (by omega) (by rw [List.size_toArray,←hl];exact h3) (by omega) (by rw [hk];exact ⟨_,I',q⟩)
theorem zdG (lo hi:Option Int) (n:Nat):(sliceBounds lo hi none n).1=((HT.sIx n 0 lo:Nat):Int)∧(sliceBounds lo hi none n).2.1=((HT.sIx n n hi:Nat):Int)∧(sliceBounds lo hi none n).2.2=1:=by
  refine ⟨?_,?_,rfl⟩
  · cases lo with
    | none=>simp [sliceBounds,HT.sIx]
    | some i =>
      simp only [sliceBounds,HT.sIx,Option.getD_none,show (1:Int)>0 by decide,if_true]
      by_cases h:i<0
      · simp only [h,if_true] <;> omega
      · simp only [h,if_false] <;> omega
  · cases hi with
    | none=>simp [sliceBounds,HT.sIx]
    | some i =>
      simp only [sliceBounds,HT.sIx,Option.getD_none,show (1:Int)>0 by decide,if_true]
      by_cases h:i<0
      · simp only [h,if_true] <;> omega
      · simp only [h,if_false] <;> omega
theorem ycU (its:List Value) (lo hi:Option Int):slicePick its.toArray lo hi none=((its.drop (HT.sIx its.length 0 lo)).take (HT.sIx its.length its.length hi-HT.sIx its.length 0 lo)).toArray:=by
  obtain ⟨h1,h2,h3⟩:=zdG lo hi its.toArray.size
  unfold slicePick
  rw [h1,h2,h3]
  simp only [sliceRange_one,pick_run,List.size_toArray] <;> rfl
def rSlL (K:PySem.W.Frag):V→Option Int→Option Int→Hp→VK→Prop:=fun x lo hi H Q=>∃a xs,x = .ref a∧SqL K H a xs∧∀p,H p=none→Q (.ref p) (upd H p (.lst (cutV xs lo hi)))
theorem zdS:SlR X (rSlL X.K):=by
  intro pins s σ H x v vl vu lo hi sl Q I rx hs pl pu h
  obtain ⟨a,xs,rfl,hx,q⟩:=h
  cases rx
  obtain ⟨its,r,ht,hz⟩:=I.list hx
  have hlen:=r.length
  refine ⟨"list",_,slot_list_getitem.lookup,ht.isList.typeIs,?_⟩
  refine wpAny_getItem_list_slice ht.isList hs pl pu .none (by simp) ?_ (by rw [List.size_toArray] <;> omega)
  rw [ycU,←hlen]
  refine ⟨.ref s.heap.objs.size,_,I.laid (t':=s.toks) (o:=.lst (cutV xs lo hi)) (fun b ob q=>Heap.get?_push_of_some _ q) (Nat.le_refl _) ?_,rfl,q _ (I.hok.fresh (Nat.le_refl _))⟩
  exact ⟨Nat.le_trans (ycj xs lo hi) hz,_,0,(r.drop (HT.sIx xs.length 0 lo)).take (HT.sIx xs.length xs.length hi-HT.sIx xs.length 0 lo),Heap.get?_push_size _ rfl⟩
theorem yak:zbG X (.builtin "len") (fun xs H Q=>∃p ys,xs=[.ref p]∧(SqL X.K H p ys∨SqT X.K H p ys)∧Q (.int ys.length) H):=by
  intro pins s σ H xs us Q I r h
  obtain ⟨p,ys,rfl,hq,q⟩:=h
  obtain ⟨u,rfl,rx⟩:=zcv r
  cases rx
  have hn:=zet
  rcases hq with hq|hq
  · obtain ⟨its,r',pl,hz⟩:=I.list hq
    have hlen:=r'.length
    exact Calls.call_len_list pl.isList (by simp only [List.size_toArray] <;> omega) ⟨.int ys.length,H,I.tok _,⟨s.toks+1,by rw [List.size_toArray,hlen]⟩,q⟩
  · obtain ⟨its,r',pl,hz⟩:=I.tuple hq
    have hlen:=r'.length
    exact len_tuple pl (by simp only [List.size_toArray] <;> omega) ⟨.int ys.length,H,I.tok _,⟨s.toks+1,by rw [List.size_toArray,hlen]⟩,q⟩
theorem yb4:zbG X (.type "list") (fun xs H Q=>∃p ys,xs=[.ref p]∧(SqL X.K H p ys∨SqT X.K H p ys)∧∀l,H l=none→Q (.ref l) (upd H l (.lst ys))):=by
  intro pins s σ H xs us Q I r h
  obtain ⟨p,ys,rfl,hq,q⟩:=h
  obtain ⟨u,rfl,rx⟩:=zcv r
  cases rx
  have fin:∀(its:List Value),Vals ys its→ys.length≤sizeLine→∀(h':Heap) (c':Nat),(∀b o',s.heap.get? b=some o'→h'.get? b=some o')→
      h'.get? s.heap.objs.size=some { cls:=.type "list",dict:=none,data:=.seq its.toArray c',slots:=#[] }→EP X pins σ Q (.ref s.heap.objs.size) { s with heap:=h' }:=fun its r' hz h' c' kp e =>
    ⟨.ref s.heap.objs.size,_,I.laid (t':=s.toks) kp (Nat.le_refl _) (show zaW X.prog X.w _ h' _ (.lst ys) from ⟨hz,its,c',r',e⟩),rfl,q _ (I.hok.fresh (Nat.le_refl _))⟩
  rcases hq with hq|hq
  · obtain ⟨its,r',pl,hz⟩:=I.list hq
    have hlen:=r'.length
    obtain ⟨o,ho,hc,n,hd⟩:=pl.isList
    exact call_list_seq p (.inl rfl) ho hc hd (fun h' c' kp e=>fin its r' hz h' c' kp e) (by simp only [List.size_toArray] <;> omega)
  · obtain ⟨its,r',pl,hz⟩:=I.tuple hq
    have hlen:=r'.length
    obtain ⟨o,ho,hc,n,hd⟩:=pl
    exact call_list_seq p (.inr rfl) ho hc hd (fun h' c' kp e=>fin its r' hz h' c' kp e) (by simp only [List.size_toArray] <;> omega)
theorem yav:zbG X (.type "tuple") (fun xs H Q=>∃p ys,xs=[.ref p]∧((SqL X.K H p ys∧∀l,H l=none→Q (.ref l) (upd H l (.tup ys)))∨(SqT X.K H p ys∧Q (.ref p) H))):=by
  intro pins s σ H xs us Q I r h
  obtain ⟨p,ys,rfl,h⟩:=h
  obtain ⟨u,rfl,rx⟩:=zcv r
  cases rx
  rcases h with ⟨hq,q⟩ | ⟨hq,q⟩
  · obtain ⟨its,r',pl,hz⟩:=I.list hq
    have hlen:=r'.length
    refine call_tuple_list pl.isList (fun h' kp=>?_) (by simp only [List.size_toArray] <;> omega)
    have I1:Inv X pins σ H { s with heap:=h' }:=I.kept (t':=s.toks) kp
    have I2:Inv X pins σ (upd H h'.objs.size (.tup ys)) { s with heap:=h'.push { cls:=.type "tuple",data:=.seq its.toArray } } :=
      I1.laid (t':=s.toks) (fun b o e=>Heap.get?_push_of_some _ e) (Nat.le_refl _) (show zaW X.prog X.w _ _ _ (.tup ys) from ⟨hz,its,r',IsTup.new _ _⟩)
    exact ⟨.ref h'.objs.size,_,I2,rfl,q _ (I1.hok.fresh (Nat.le_refl _))⟩
  · obtain ⟨its,r',pl,hz⟩:=I.tuple hq
    exact call_tuple_same pl ⟨.ref p,H,I,rfl,q⟩
def tyV (K:PySem.W.Frag) (T:String) (x:V) (H:Hp):Prop:=match x with
  | .str _=>T = "str"
  | .int _=>T = "int"
  | .ref p=>(T = "list"∧∃xs,SqL K H p xs)∨(T = "tuple"∧∃o,K.lookup p=some o∧o.cls = .type "tuple"∧o.dict=none)∨
      (T = "dict"∧((∃kvs,H p=some (.dK kvs))∨∃kvs,H p=some (.dT kvs)))∨(T = "set"∧∃S n,H p=some (.set S n))
  | _=>False
theorem yhc {pins:List (Addr×Obj)} {σ:St} {H:Hp} {s:Shared} {T:String} {x:V} {v:Value} (I:Inv X pins σ H s) (r:RelV x v) (ty:tyV X.K T x H) :
    s.TypeIs v T∧∀a,v = .ref a→∃ob,s.heap.get? a=some ob∧ob.dict=none:=by
  cases x with
  | str z =>
    obtain ⟨t,rfl⟩:=r
    cases (show T = "str" from ty)
    exact ⟨typeIs_str s z t,fun _ e=>nomatch e⟩
  | int i =>
    obtain ⟨t,rfl⟩:=r
    cases (show T = "int" from ty)
    exact ⟨typeIs_int s i t,fun _ e=>nomatch e⟩
  | ref p =>
    cases r
    rcases ty with ⟨rfl,xs,hq⟩ | ⟨rfl,o,hk,hc,hd⟩ | ⟨rfl,hk⟩ | ⟨rfl,S,n,hk⟩
    · obtain ⟨its,_,pl,_⟩:=I.list hq
      refine ⟨pl.isList.typeIs,fun a e=>?_⟩
      cases e
      obtain ⟨o,n,e,c,hd,_⟩:=pl
      exact ⟨o,e,hd⟩
    · refine ⟨⟨o,I.kIn p o hk,hc⟩,fun a e=>?_⟩
      cases e
      exact ⟨o,I.kIn _ o hk,hd⟩
    · have z:∃o,s.heap.get? p=some o∧o.ExactDict:=by
        rcases hk with ⟨kvs,hk⟩ | ⟨kvs,hk⟩
        · obtain ⟨_,_,_,_,o,_,_,e,ex,_⟩:=I.hok p _ hk
          exact ⟨o,e,ex⟩
        · obtain ⟨_,_,_,_,o,_,_,e,ex,_⟩:=I.hok p _ hk
          exact ⟨o,e,ex⟩
      obtain ⟨o,e,ex⟩:=z
      refine ⟨⟨o,e,ex.1⟩,fun a e2=>?_⟩
      cases e2
      exact ⟨o,e,ex.2.1⟩
    · obtain ⟨o,_,_,_,e,ex,_⟩:=I.hok p _ hk
      refine ⟨⟨o,e,ex.1⟩,fun a e2=>?_⟩
      cases e2
      exact ⟨o,e,ex.2.1⟩
  | _=>exact False.elim ty
def tBM (K:PySem.W.Frag) (T:String) (r:V→List V→Hp→VK→Prop) (to:TE) (t:TA):TE:=fun σ H Q=>to σ H fun x H1=>tyV K T x H1∧t σ H1 fun xs H2=>r x xs H2 Q
variable {o e:Expr} {es:List Expr} {to:TE} {t:TA} {name:Str} {apos cpos:Pos} {T id:String} {r:V→List V→Hp→VK→Prop}
theorem yeF (pa:PlainAttrs T) (slot:Slot T name id) (hty:typeOf (.builtin id)=pure (.type "method_descriptor")) (hm:MtR X id r) (ho:PE X o to) (ha:PA X (e::es) t)
    (hbase:attributeBase o name X.env (eval o X.env)=eval o X.env:=by rfl)
    (hfew:((backTo cpos (starEach (e::es) X.env)).all (fun x=>!x.1)&&(backToKw cpos (keywordEach [] X.env)).all (fun x=>x.1.isSome)
      && decide ((e::es).length+([]:List Keyword).length+(if ([]:List Keyword).isEmpty then 0 else 1)<30))=true:=by rfl)
    (hline:(apos.endLine==cpos.line)=true:=by rfl) (hs:starEach (e::es) X.env=(false,eval e X.env)::starEach es X.env:=by rfl) (hplain:(backTo cpos (starEach es X.env)).any (·.1)=false:=by rfl) :
    PE X (.Call (.Attribute o name apos) (e::es) [] cpos) (tBM X.K T r to t):=by
  intro pins s σ H Q I h
  refine wpAny_Call_method_late hbase hfew hline rfl (thn (ho pins s σ H _ I h) fun v s1 ⟨x,H1,I1,r1,ty,q1⟩=>?_)
  obtain ⟨h1,h2⟩:=yhc I1 r1 ty
  refine ⟨T,id,pa,slot,hty,h1,h2,?_⟩
  have hA:=ha cpos pins s1 σ H1 _ I1 q1
  rw [hs] at hA ⊢
  refine Calls.callWith_builtin (by show (false||(backTo cpos (starEach es X.env)).any (·.1))=false;rw [hplain] <;> rfl) (Calls.evalArgs_plain ?_)
  exact thn hA fun us s2 ⟨vs,H2,I2,r2,q2⟩=>hm pins s2 σ H2 x vs v us Q I2 r1 r2 q2
end
end L2
namespace L2
open PySem PySem.Spec PyProof.Rows
def MtM (X:Cx) (id:String) (r:V→List V→Hp→VK→Prop):Prop :=
  ∀(pins:List (Addr×Obj)) (s:Shared) (σ:St) (H:Hp) (x:V) (xs:List V) (v:Value) (us:List Value) (Q:VK),Inv X pins σ H s→RelV x v→Vals xs us→r x xs H Q→
    wpAny (model X.prog X.w) X.A (call (.builtin id) (v::us)) (EP X pins σ Q) X.xe s
theorem Vals.one:∀ {x:V} {us:List Value},Vals [x] us→∃u,us=[u]∧RelV x u
  | _,_,.cons r .nil=>⟨_,rfl,r⟩
theorem Vals.eraseIdx:∀ {xs:List V} {us:List Value} (i:Nat),Vals xs us→Vals (xs.eraseIdx i) (us.eraseIdx i)
  | _,_,_,.nil=>.nil
  | _,_,0,.cons _ t=>t
  | _,_,i+1,.cons r t=>.cons r (Vals.eraseIdx i t)
theorem Vals.reverse {xs:List V} {us:List Value} (h:Vals xs us):Vals xs.reverse us.reverse:=by
  induction h with
  | nil=>exact .nil
  | cons r t ih=>rw [List.reverse_cons,List.reverse_cons];exact Vals.append ih (.cons r .nil)
theorem Vals.rep {xs:List V} {us:List Value} (h:Vals xs us):∀k:Nat,Vals (List.replicate k xs).flatten (List.replicate k us).flatten
  | 0=>.nil
  | k+1=>by
    rw [List.replicate_succ,List.replicate_succ,List.flatten_cons,List.flatten_cons]
    exact Vals.append h (Vals.rep h k)
theorem ydl {α:Type}:∀(l:List α) (i:Nat),(l.eraseIdx i).length≤l.length
  | [],_=>Nat.le_refl _
  | _::_,0=>Nat.le_succ _
  | _::r,i+1=>Nat.succ_le_succ (ydl r i)
theorem ycw (its:List Value):∀(k:Nat) (acc:List Value),
    List.foldl (fun x1 x2=>x1++x2) acc.toArray (List.replicate k its.toArray)=(acc++(List.replicate k its).flatten).toArray
  | 0,acc=>by simp
  | k+1,acc=>by
    have e:acc.toArray++its.toArray=(acc++its).toArray:=by simp
    have e2:(acc++its)++(List.replicate k its).flatten=acc++(List.replicate (k+1) its).flatten:=by
      rw [List.replicate_succ,List.flatten_cons,List.append_assoc]
    rw [←e2,←ycw its k (acc++its),←e,List.replicate_succ,List.foldl_cons]
section
variable {X:Cx} {pins:List (Addr×Obj)} {σ:St} {H:Hp} {s:Shared} {l b:Addr} {xs ys zs:List V}
theorem Inv.lset {its its':List Value} {n:Nat} {f:Array Value→Array Value} {t':Nat} (I:Inv X pins σ H s) (hH:H l=some (.lst xs))
    (e:s.heap.get? l=some { cls:=.type "list",data:=.seq its.toArray n }) (hf:f its.toArray=its'.toArray) (hv:Vals ys its') (hz:ys.length≤sizeLine) :
    Inv X pins σ (upd H l (.lst ys)) { s with heap:=s.heap.update l (Obj.mapSeq f),toks:=t' }:=by
  have q:=PySem.IsL.update e f
  rw [hf] at q
  refine I.write (x:=l) (e:=l) (by rw [hH];exact trivial) (.inl rfl) (fun b' u hb hu=>(Heap.get?_update_other s.heap (Obj.mapSeq f) (Ne.symm hb)).trans hu) ⟨_,q⟩ ?_
  exact ⟨hz,its',_,hv,q⟩
theorem Inv.lnew {its:List Value} {t':Nat} (I:Inv X pins σ H s) (hv:Vals ys its) (hz:ys.length≤sizeLine) :
    Inv X pins σ (upd H s.heap.objs.size (.lst ys)) { s with heap:=s.heap.push { cls:=.type "list",data:=.seq its.toArray },toks:=t' } :=
  I.laid (fun _ _ q=>Heap.get?_push_of_some _ q) (Nat.le_refl _) ⟨hz,its,0,hv,Heap.get?_push_size _ rfl⟩
theorem Inv.fresh (I:Inv X pins σ H s):H s.heap.objs.size=none:=I.hok.fresh (Nat.le_refl _)
theorem Inv.lstM (I:Inv X pins σ H s) (hH:H l=some (.lst xs)):xs.length≤sizeLine∧∃(its:List Value) (n:Nat),Vals xs its∧xs.length=its.length∧s.heap.get? l=some { cls:=.type "list",data:=.seq its.toArray n }:=by
  obtain ⟨z,its,n,r,e⟩:=I.hok l _ hH
  exact ⟨z,its,n,r,r.length,e⟩
theorem zek {n:Nat} (h:n≤sizeLine):Builtin.List.listTooLong n=false:=by
  unfold Builtin.List.listTooLong
  exact decide_eq_false (by omega)
end
section
variable {X:Cx}
def ygm:V→List V→Hp→VK→Prop:=fun x vs H Q=>∃l xs y,x = .ref l∧vs=[y]∧H l=some (.lst xs)∧xs.length<sizeLine∧Q .non (upd H l (.lst (xs++[y])))
theorem ybx:MtM X "list.append" ygm:=by
  intro pins s σ H x vs v us Q I rx rv h
  obtain ⟨l,xs,y,rfl,rfl,hH,hz,q⟩:=h
  cases rx
  obtain ⟨u,rfl,ru⟩:=rv.one
  obtain ⟨z,its,n,r,hl,e⟩:=I.lstM hH
  refine call_meets F.slot_list_append ⟨_,e,rfl⟩ F.entry_list_append (F.args_list_append_2 _ _) (PySem.list_append l its.toArray n u (by rw [List.size_toArray];omega)) ⟨e,?_⟩
  refine ⟨.non,_,I.lset (its':=its++[u]) hH e (by simp) (r.append (.cons ru .nil)) ?_,rfl,q⟩
  rw [List.length_append,List.length_singleton]
  omega
def zgz:V→List V→Hp→VK→Prop:=fun x vs H Q=>∃l b xs zs,x = .ref l∧vs=[.ref b]∧H l=some (.lst xs)∧H b=some (.lst zs)∧xs.length+zs.length≤sizeLine∧Q .non (upd H l (.lst (xs++zs)))
theorem zhc:MtM X "list.extend" zgz:=by
  intro pins s σ H x vs v us Q I rx rv h
  obtain ⟨l,b,xs,zs,rfl,rfl,hH,hB,hz,q⟩:=h
  cases rx
  obtain ⟨u,rfl,ru⟩:=rv.one
  cases ru
  obtain ⟨z,its,n,r,hl,e⟩:=I.lstM hH
  obtain ⟨z2,its2,n2,r2,hl2,e2⟩:=I.lstM hB
  have hsz:its.toArray.size+its2.toArray.size≤sizeLine:=by rw [List.size_toArray,List.size_toArray];omega
  have hlong:¬ (!its.toArray.isEmpty&&Builtin.List.listTooLong (its.toArray.size+its2.toArray.size))=true:=by
    rw [zek hsz,Bool.and_false]
    exact Bool.false_ne_true
  refine call_meets F.slot_list_extend ⟨_,e,rfl⟩ F.entry_list_extend (F.args_list_extend_2 _ _)
    (AutoSeq1.list_extend_list_list_0 l its.toArray n b its2.toArray n2 hlong (by rw [List.size_toArray];omega) (by omega)) ⟨e,e2,?_⟩
  refine ⟨.non,_,I.lset (its':=its++its2) hH e (by simp) (r.append r2) ?_,rfl,q⟩
  rw [List.length_append]
  omega
def ygV:V→List V→Hp→VK→Prop:=fun x vs H Q=>∃l xs i k y,x = .ref l∧vs=[.int i]∧H l=some (.lst xs)∧-(2^63)≤i∧i<2^63∧seqIndex? i xs.length=some k∧xs[k]?=some y∧Q y (upd H l (.lst (xs.eraseIdx k)))
theorem zfB:MtM X "list.pop" ygV:=by
  intro pins s σ H x vs v us Q I rx rv h
  obtain ⟨l,xs,i,k,y,rfl,rfl,hH,h1,h2,hk,hy,q⟩:=h
  cases rx
  obtain ⟨u,rfl,ru⟩:=rv.one
  obtain ⟨t,rfl⟩:=ru
  obtain ⟨z,its,n,r,hl,e⟩:=I.lstM hH
  obtain ⟨w,hw,rw'⟩:=r.get hy
  refine call_meets F.slot_list_pop ⟨_,e,rfl⟩ F.entry_list_pop (F.args_list_pop_2 _ _)
    (MeetsSeq.list_pop_at l its.toArray n i t k w (fitsIndex_both h1 h2) (by rw [List.size_toArray,←hl];exact hk) (by rw [←Array.getElem?_toList];exact hw) (by rw [List.size_toArray];omega)) ⟨e,?_⟩
  refine ⟨y,_,I.lset (its':=its.eraseIdx k) hH e ?_ (r.eraseIdx k) ?_,rw',q⟩
  · show its.toArray.eraseIdxIfInBounds k=(its.eraseIdx k).toArray
    rw [List.eraseIdxIfInBounds_toArray]
  · have:=ydl xs k
    omega
def rCat:R2:=fun x y H Q=>∃l b xs zs,x = .ref l∧y = .ref b∧H l=some (.lst xs)∧H b=some (.lst zs)∧xs.length+zs.length≤sizeLine∧∀p,H p=none→Q (.ref p) (upd H p (.lst (xs++zs)))
theorem yeQ:OpR X (binaryOp .Add) rCat:=by
  intro pins s σ H x y v u Q I rx ry h
  obtain ⟨l,b,xs,zs,rfl,rfl,hH,hB,hz,q⟩:=h
  cases rx
  cases ry
  obtain ⟨z,its,n,r,hl,e⟩:=I.lstM hH
  obtain ⟨z2,its2,n2,r2,hl2,e2⟩:=I.lstM hB
  refine PySem.P.add_list e e2 ?_ (by rw [List.size_toArray,List.size_toArray];omega)
  have ea:its.toArray++its2.toArray=(its++its2).toArray:=by simp
  rw [ea]
  exact ⟨.ref _,_,I.lnew (t':=s.toks) (r.append r2) (by rw [List.length_append];omega),rfl,q _ I.fresh⟩
def rRep:R2:=fun x y H Q=>∃l k xs,x = .ref l∧y = .int k∧H l=some (.lst xs)∧-(2^63)≤k∧k<2^63∧xs.length*k.toNat≤sizeLine∧
  ∀p,H p=none→Q (.ref p) (upd H p (.lst (List.replicate k.toNat xs).flatten))
theorem zfm {α:Type} (xs:List α) (k:Nat):(List.replicate k xs).flatten.length=k*xs.length:=by
  induction k with
  | zero=>simp
  | succ k ih=>rw [List.replicate_succ,List.flatten_cons,List.length_append,ih,Nat.succ_mul,Nat.add_comm]
theorem zee:OpR X (binaryOp .Mult) rRep:=by
  intro pins s σ H x y v u Q I rx ry h
  obtain ⟨l,k,xs,rfl,rfl,hH,h1,h2,hz,q⟩:=h
  cases rx
  obtain ⟨t,rfl⟩:=ry
  obtain ⟨z,its,n,r,hl,e⟩:=I.lstM hH
  have hlen:its.toArray.size*k.toNat≤sizeLine:=by rw [List.size_toArray,←hl];exact hz
  have hcap:¬ its.toArray.size*k.toNat>(2^63-1)/8:=by
    have:(sizeLine:Nat)≤(2^63-1)/8:=by decide
    omega
  have hfit:¬ (!Builtin.List.listFitsIndex k)=true:=by
    rw [fitsIndex_both h1 h2]
    exact Bool.false_ne_true
  have hlong:¬ Builtin.List.listTooLong (its.toArray.size*k.toNat)=true:=by
    rw [zek hlen]
    exact Bool.false_ne_true
  have hnew:List.foldl (fun x1 x2=>x1++x2) #[] (List.replicate (if its.toArray.isEmpty=true then 0 else k.toNat) its.toArray)=(List.replicate k.toNat its).flatten.toArray:=by
    have f0:∀m:Nat,List.foldl (fun x1 x2=>x1++x2) #[] (List.replicate m its.toArray)=(List.replicate m its).flatten.toArray:=fun m=>by
      have:=ycw its m []
      rw [List.nil_append] at this
      exact this
    rw [f0]
    cases its with
    | nil=>simp
    | cons a r'=>rw [if_neg (by simp)]
  refine wpAny_binaryOp_repeat_ref (T:="list") (U:="int") (by decide) ⟨_,e,rfl⟩ (fun s'=>typeIs_int s' k t) noFill_list_mul F.fills_int_mul F.slot_int_rmul repeat_list F.slot_int_index.lookup
    (call_meets F.slot_int_rmul (typeIs_int s k t) F.entry_int_rmul (F.args_int_rmul_2 _ _) (int___rmul___int_list k t l its.toArray n)
      ⟨e,rfl,⟨_,e,rfl⟩,call_meets F.slot_list_mul ⟨_,e,rfl⟩ F.entry_list_mul (F.args_list_mul_2 _ _) (AutoListH.list___mul___list_int_3 l its.toArray n k t hfit hcap hlong) ⟨e,?_⟩⟩)
  rw [hnew]
  exact ⟨.ref _,_,I.lnew (t':=s.toks) (r.rep k.toNat) (by rw [zfm,Nat.mul_comm];exact hz),rfl,q _ I.fresh⟩
end
section
variable {prog:Program} {w:World} {A:Around} {E:Value→Shared→Prop} {s:Shared}
end
section
variable {X:Cx}
end
end L2
namespace Att
open PySem PySem.W PySem.Calls PyProof.Rows
theorem ycn {P:Params} {h:Heap}:∀(ns:List Int) (vs:List Value),WellAll P h vs (ns.map WData.int)→IntsAre vs ns:=by
  intro ns
  induction ns with
  | nil =>
    intro vs w
    rw [List.map_nil] at w
    cases w
    exact .nil
  | cons n ns ih =>
    intro vs w
    rw [List.map_cons] at w
    cases w with
    | cons a b =>
      cases a
      exact .cons _ _ (ih _ b)
theorem zfe {l:OpenLaw} {n:Nat} (hn:l.most=some n) {P:Params} {h:Heap} {args:List WData} {vals:List Value}
    (hpre:l.row.toRowW.claim.pre args=true) (hwl:WellAll P h vals args) :
    ∃a vs ns,vals=[Value.ref a]∧args=[WData.list (ns.map WData.int)]∧h.get? a=some { cls:=.type "list",data:=.seq vs.toArray }∧IntsAre vs ns∧ns.length≤n:=by
  have hsh:WShape.hasAll [] args [.list .int]=true:=(pre_splitW hpre).1
  have hc:l.pre.holds [] { args:=args }=true:=(pre_splitW hpre).2
  obtain ⟨d,r,rfl,h1,h2⟩:=hasAllW_cons hsh
  obtain rfl:=hasAllW_nil h2
  obtain ⟨xs,rfl,h3⟩:=hasW_list h1
  obtain ⟨ns,rfl⟩:=items_int h3
  have hlen:ns.length≤n:=by
    unfold OpenLaw.pre at hc
    have h4:(WTm.not (.lt (.lit (.int (n:Int))) (.len (.arg 0)))).holds [] { args:=[.list (ns.map .int)] }=true:=by
      have h4:=(holds_andW hc).1
      rw [hn] at h4
      exact h4
    have h5:=condW_of h4 (w_not (w_lt w_lit (w_len_list (w_arg rfl))))
    rw [List.length_map] at h5
    refine Nat.le_of_not_lt fun q=>?_
    have q':(n:Int)<((ns.length:Nat):Int):=by omega
    first
      | (rw [decide_eq_true q'] at h5;exact absurd h5 (by decide))
      | (simp at h5;omega)
  cases hwl with
  | cons w1 w2 =>
    cases w2
    cases w1 with
    | list ho hall=>exact ⟨_,_,ns,rfl,rfl,ho,ycn ns _ hall,hlen⟩
theorem yfg (l:OpenLaw) (args:List WData):l.row.toRowW.claim.post args (.bool true) args=true :=
  postW_of (r:=l.row.toRowW) (X:=(true==true))
    (show WShape.has [] (.bool true) .bool=true by first|rfl|decide|simp [WShape.has,WShape.arms,WShape.armsAll])
    (show (WTm.eq .res (.lit (.bool true))).value [] { args:=args,res:=some (.bool true),after:=args }=some (.bool (true==true)) from w_eq_bool (w_res rfl) w_lit) rfl
theorem attach_call {l:OpenLaw} {n:Nat} {q:Program} {loose:List Str} {XP:(Str→Option Value)→Heap→Prop} {YP:World→Heap→Prop} {d:DefRec}
    (hn:l.most=some n) (hdf:d.params.defaults=[])
    (call:∀(w:World) (s₀ s₁:Shared) (mg mb:Str→Option Value) (fa:Addr) (o:Obj) (pm cd doc:Value) (a:Addr) (vs:List Value) (ns:List Int),
      Ground q loose [] XP w s₀ mg mb s₁.heap→YP w s₁.heap→
      s₁.heap.get? fa=some o→o.data = .func (docDef d.name d.params d.body d.scope pm cd doc)→s₁.heap.CodeRec cd d.name→mg d.name=some (.ref fa)→
      s₁.heap.get? a=some { cls:=.type "list",data:=.seq vs.toArray }→IntsAre vs ns→ns.length≤n→s₁.gens = #[]→
      codeAny (model l.prog w) callerA (.call (.ref fa) ⟨[.ref a],[]⟩) (fun r s'=>r = .ok (.ret (.bool true))∧OldK s₁.heap s'.heap∧s'.os=s₁.os∧AllBare s'.gens) s₁) :
    WalkO q loose XP YP l.row.toRowW d [] (fun f vs=>PySem.call f vs):=by
  intro w s₀ s₁ mg mb G Y fa o pm cd doc dV kV ho hd hcd hD hmg hg args vals as hpre hlay hrd hwl hlo
  obtain rfl:dV = .none:=Dflts.none hD hdf
  obtain rfl:kV = .none:=Dflts.noKw hD
  obtain ⟨a,vs,ns,rfl,rfl,hobj,hints,hlen⟩:=zfe hn hpre hwl
  refine enter_call (codeAny_mono (call w s₀ s₁ mg mb fa o pm cd doc a vs ns G Y ho (fd_plain hd) hcd hmg hobj hints hlen hg) fun r s' hq=>?_)
  obtain ⟨rfl,h2,h3,h4⟩:=hq
  exact ⟨.inl ⟨.bool true,.bool true,[],rfl,fun _=>rfl,.bool true,yfg l _,fun _=>⟨List.Pairwise.nil,fun _ hm=>(nomatch hm)⟩⟩,h2,h3,h4⟩
section
variable {prog:Program} {w:World} {A:Around} {E:Value→Shared→Prop} {s:Shared} {K:Frag}
end
end Att
namespace L2
open PySem PySem.Spec PyProof.Rows
theorem ydm:∀ {vs:List Value} {ns:List Int},IntsAre vs ns→Vals (ns.map V.int) vs
  | _,_,.nil=>.nil
  | _,_,.cons n t h=>.cons ⟨t,rfl⟩ (ydm h)
def Only (H:Hp):Prop:=∀b,H b=none∨∃o xs,H b=some (.frz o (.lst xs))
theorem zfz {P:Program} {w:World} {K:PySem.W.Frag} {mg mb:Str→Option Value} {CX:CXT} {k:Nat} {fa a:Addr} {fd:FuncData} {x:Str} {sp:Sp} {s₁:Shared} {vs:List Value} {ns:List Int}
    (KX:K.In s₁.heap) (hns:s₁.heap.Ns mainGlobals mg) (hb:s₁.heap.Ns builtinsNs mb) (hbb:∀x:Str,x≠"__name__"→mb x=bootBuiltins x) (hlim:s₁.heap.NoLimit) (hg:s₁.gens = #[])
    (ha:s₁.heap.get? a=some { cls:=.type "list",data:=.seq vs.toArray }) (hi:IntsAre vs ns) (hl:ns.length≤sizeLine) (hr:Room k callerA)
    (F:∀base:Heap,K.In base→base.Ns mainGlobals mg→FnOk P w K mg base CX k fa fd [x] sp) (hbind:∀(s:Shared) (u:Value),BindsTo s fd ⟨[u],[]⟩ [(x,u)])
    (hsp:∀H:Hp,Only H→SqL K H a (ns.map V.int)→sp [.ref a] H (fun v _=>v = .bl true) fun _ _ _=>False)
    (hCX:∀H e s',CX [] H s₁ (fun _ _ _=>False) e s'→False) :
    codeAny (model P w) callerA (.call (.ref fa) ⟨[.ref a],[]⟩) (fun r s'=>r = .ok (.ret (.bool true))∧OldK s₁.heap s'.heap∧s'.os=s₁.os∧AllBare s'.gens) s₁:=by
  have rv:=ydm hi
  have lenV:=hi.length
  have core:∀H:Hp,Only H→SqL K H a (ns.map V.int)→HOk P w H s₁.heap→(∀b,H b≠none→b=a)→(H a≠none→K.lookup a=none)→
      codeAny (model P w) callerA (.call (.ref fa) ⟨[.ref a],[]⟩) (fun r s'=>r = .ok (.ret (.bool true))∧OldK s₁.heap s'.heap∧s'.os=s₁.os∧AllBare s'.gens) s₁:=by
    intro H hO hS hok hA hK
    have base_of:∀ {b:Addr} {o:Obj},s₁.heap.get? b=some o→H b=none→(hidT s₁.heap H).get? b=some o:=fun e n=>zfN e n
    have noA:∀ {b:Addr} {o:Obj} {es:Array DictEntry} {ep:Nat},s₁.heap.get? b=some o→o.data = .dict es ep→H b=none:=fun {b o es ep} e d=>by
      cases q:H b with
      | none=>rfl
      | some u =>
        have e':b=a:=hA b (by rw [q];simp)
        subst e'
        rw [ha] at e;cases e
        have d':Data.seq vs.toArray _=Data.dict es ep:=d
        cases d'
    have nsK:∀ {b:Addr} {m:Str→Option Value},s₁.heap.Ns b m→(hidT s₁.heap H).Ns b m:=fun {b m} ⟨o,es,ep,e,d,r⟩=>⟨o,es,ep,base_of e (noA e d),d,r⟩
    have hKb:K.In (hidT s₁.heap H):=fun b o e=>base_of (KX b o e) (by
      cases q:H b with
      | none=>rfl
      | some u =>
        have e':b=a:=hA b (by rw [q];simp)
        subst e'
        rw [hK (by rw [q];simp)] at e;cases e)
    have hM:Mod K mg (hidT s₁.heap H):=⟨hKb,nsK hns,⟨mb,nsK hb,hbb⟩,let ⟨mc,h1,h2⟩:=hlim;⟨mc,nsK h1,h2⟩⟩
    have e0:Env0 P w K mg (hidT s₁.heap H) callerA [] s₁ H:=⟨rfl,hM,fun b o e=>ygp e,Nat.le_of_eq (zfl _ _),trivial,fun b hb=>absurd (show b∈([]:List Addr) from hb) (by simp),hok,.of_eq hg⟩
    refine codeAny_mono ((F _ hKb (nsK hns)).run callerA [] s₁ H ⟨[.ref a],[]⟩ [.ref a] [.ref a] _ _ hr e0 (hbind s₁ (.ref a)) (.cons rfl .nil) (hsp H hO hS)) fun r s' h=>?_
    cases r with
    | error e=>exact (hCX H e s' h).elim
    | ok fl =>
      cases fl with
      | next=>exact False.elim h
      | brk=>exact False.elim h
      | cont=>exact False.elim h
      | ret u =>
        obtain ⟨v,H',os,bare,un,hok',r',q⟩:=h
        have q':v = .bl true:=q
        subst q'
        obtain rfl:u=Value.bool true:=r'
        refine ⟨rfl,OldK.of_keep fun b o e=>?_,os,bare⟩
        cases q:H b with
        | none=>exact un.keep b o e q (by intro z;exact absurd (show b∈([]:List Addr) from z) (by simp)) (by simp)
        | some u =>
          rcases hO b with z | ⟨ob,xs,z⟩
          · rw [q] at z;cases z
          · have z2:=un.frzs b ob _ z
            obtain ⟨e1,_⟩:=hok b _ z
            obtain ⟨e2,_⟩:=hok' b _ z2
            rw [e] at e1;cases e1
            exact e2
  cases hk:K.lookup a with
  | some o =>
    have e:=KX a o hk
    rw [ha] at e
    cases e
    refine core (fun _=>none) (fun _=>.inl rfl) (.inr ⟨_,vs.toArray,_,hk,rfl,rfl,rfl,by rw [List.size_toArray,lenV];exact hl,by simpa using rv⟩) (fun b u z=>by have z':(none:Option HO)=some u:=z;cases z') (fun b z=>absurd rfl z) fun z=>absurd rfl z
  | none =>
    refine core (fun b=>if b=a then some (.frz { cls:=.type "list",data:=.seq vs.toArray } (.lst (ns.map V.int))) else none) (fun b=>?_) (.inl (.inr ⟨{ cls:=.type "list",data:=.seq vs.toArray },if_pos rfl⟩)) (fun b u z=>?_) (fun b z=>?_) fun _=>hk
    · by_cases hb:b=a
      · exact .inr ⟨_,_,if_pos hb⟩
      · exact .inl (if_neg hb)
    · by_cases hb:b=a
      · have z':=(if_pos hb).symm.trans z
        cases z'
        subst hb
        exact ⟨ha,by rw [List.length_map];exact hl,vs,_,rv,ha⟩
      · have z':=(if_neg hb).symm.trans z
        cases z'
    · by_cases hb:b=a
      · exact hb
      · exact absurd (if_neg hb) z
end L2
namespace L2
open PySem PySem.Spec PyProof.Rows
abbrev KOf {K:PySem.W.Frag} {h:Heap} (_:K.In h):PySem.W.Frag:=K
theorem walk_of {l:PySem.W.OpenLaw} {n k:Nat} {q:Program} {loose:List Str} {XP:(Str→Option Value)→Heap→Prop} {YP:World→Heap→Prop} {d:DefRec} {K:Params→PySem.W.Frag} {CX:World→CXT} {sp:World→Sp} {x:Str}
    (hn:l.most=some n) (hn2:n≤sizeLine) (hdf:d.params.defaults=[]) (hr:Room k callerA)
    (hY:∀(w:World) (h:Heap),YP w h→(K w.params).In h)
    (F:∀(w:World) (mg:Str→Option Value) (fa:Addr) (h:Heap),(K w.params).In h→h.Ns mainGlobals mg→mg d.name=some (.ref fa)→
      ∃fd:FuncData,(∀(s:Shared) (u:Value),BindsTo s fd ⟨[u],[]⟩ [(x,u)])∧
        ∀base:Heap,(K w.params).In base→base.Ns mainGlobals mg→FnOk l.prog w (K w.params) mg base (CX w) k fa fd [x] (sp w))
    (hsp:∀(w:World) (H:Hp) (a:Addr) (ns:List Int),ns.length≤n→Only H→SqL (K w.params) H a (ns.map V.int)→sp w [.ref a] H (fun v _=>v = .bl true) fun _ _ _=>False)
    (hCX:∀(w:World) (H:Hp) (s:Shared) (e:Value) (s':Shared),CX w [] H s (fun _ _ _=>False) e s'→False) :
    PySem.W.WalkO q loose XP YP l.row.toRowW d [] (fun f vs=>PySem.call f vs):=by
  refine Att.attach_call hn hdf fun w s₀ s₁ mg mb fa o pm cd doc a vs ns G Y ho hd hcd hmg hobj hints hlen hg=>?_
  have KX:=hY w _ Y
  obtain ⟨fd,hb,hF⟩:=F w mg fa _ KX G.T.g hmg
  exact zfz KX G.T.g G.T.b G.T.builtins G.T.nolimit hg hobj hints (Nat.le_trans hlen hn2) hr hF hb (fun H hO hS=>hsp w H a ns hlen hO hS) fun H e s'=>hCX w H s₁ e s'
end L2
namespace L2
open PySem PySem.Spec PyProof.Rows
def yai (s:Stmt):Arguments:=match s with
  | .FunctionDef _ a _ _ _ _ _ _ _ _=>a
  | _=>{ posonlyargs:=[],args:=[],vararg:=none,kwonlyargs:=[],kw_defaults:=[],kwarg:=none,defaults:=[] }
def yah (s:Stmt):List Stmt:=match s with
  | .FunctionDef _ _ b _ _ _ _ _ _ _=>b
  | _=>[]
def zad (s:Stmt):Scope:=match s with
  | .FunctionDef _ _ _ _ _ _ sc _ _ _=>sc
  | _=>{ kind:=.function,names:=[],isGenerator:=false,isCoroutine:=false }
abbrev CX0:CXT:=fun _ _ _ _ _ _=>False
abbrev E0:XK:=fun _ _ _=>False
theorem yhi {X:Cx}:zfq CX0 X E0:=fun _ _ _ _ _ _ _ h=>h.elim
structure Fun (K:PySem.W.Frag) (x qual:Str) (st:Stmt) (f:Addr) (fd:FuncData):Prop where
  ex:∃(oc:Value) (od:Option Addr) (kV doc pm:Value) (an:Option Addr) (cdv ct:Value) (osl:Array (Option Value)),
    fd=PySem.W.fnOf x qual (yai st) (yah st) (zad st) .none kV doc pm an cdv ct∧K.lookup f=some ⟨oc,od,.func fd,osl⟩∧PySem.W.codeIn K cdv qual=true
  kp:PySem.W.keepIn K (.ref f)=true
section
variable {P:Program} {w:World} {K:PySem.W.Frag} {mg:Str→Option Value} {base:Heap}
theorem Fun.ok {x qual:Str} {st:Stmt} {f:Addr} {fd:FuncData} {N ps:List Str} {k:Nat} {sp:Sp} (F:Fun K x qual st f fd) (S:yaj N ps (zad st)) (len:∀vs H Q E,sp vs H Q E→vs.length=ps.length)
    (hbody:∀(cdv:Value) (A:Around) (outer:List Env) (s:Shared) (H:Hp) (vs:List V) (Q:VK) (E:XK),Room k (A.deeper (envOfC qual (zad st) s.heap.objs.size f cdv))→sp vs H Q E→
      ∃t,PSs (cxOf CX0 P w K mg base N qual (zad st) f cdv A outer s H E).nox (yah st) t∧t { nx:=fun _ H'=>Q .non H',rt:=Q } (zc8 N vs) H):FnOk P w K mg base CX0 (k+1) f fd ps sp:=by
  obtain ⟨oc,od,kV,doc,pm,an,cdv,ct,osl,rfl,lk,hcd⟩:=F.ex
  refine zg2 lk hcd S len fun A outer s H vs Q E hr hsp=>?_
  obtain ⟨t,h,q⟩:=hbody cdv A outer s H vs Q E hr hsp
  exact ⟨t,h.nox,q⟩
theorem Fun.binds {x qual:Str} {st:Stmt} {f:Addr} {fd:FuncData} {ps:List Str} (F:Fun K x qual st f fd)
    (h:∀(kV doc pm:Value) (an:Option Addr) (cdv ct:Value) (us:List Value),us.length=ps.length→bindArgs (PySem.W.fnOf x qual (yai st) (yah st) (zad st) .none kV doc pm an cdv ct) ⟨us,[]⟩=pure (ps.zip us)):zdT K fd ps []:=by
  obtain ⟨oc,od,kV,doc,pm,an,cdv,ct,osl,rfl,lk,hcd⟩:=F.ex
  exact .all (h kV doc pm an cdv ct)
theorem yao {x qual:Str} {st:Stmt} {f:Addr} {oc:Value} {od an:Option Addr} {osl:Array (Option Value)} {kV doc pm cdv ct:Value} (l:K.lookup f=some ⟨oc,od,.func (PySem.W.fnOf x qual (yai st) (yah st) (zad st) .none kV doc pm an cdv ct),osl⟩)
    (c:PySem.W.codeIn K cdv qual=true) (k:PySem.W.keepIn K (.ref f)=true):Fun K x qual st f (PySem.W.fnOf x qual (yai st) (yah st) (zad st) .none kV doc pm an cdv ct):=⟨⟨oc,od,kV,doc,pm,an,cdv,ct,osl,rfl,l,c⟩,k⟩
end
theorem yb8 {A:Around} {k:Nat} (hr:Room k A):A.units+1<cLine:=Nat.lt_of_le_of_lt (Nat.add_le_add_left (by decide:1≤64) _) hr.units
theorem yap {n:Nat} (h:n≤1000):n<sizeLine:=Nat.lt_of_le_of_lt h (by decide)
section
variable {X:Cx}
theorem pv (i:Nat) {x:Str} {pos:Pos} (hN:X.N[i]?=some x:=by rfl) (hv:Vis X.env.scope x:=by first|exact Or.inl rfl|exact Or.inr (Or.inl rfl)|exact Or.inr (Or.inr rfl)) (hd:(x==("__debug__":Str))=false:=by decide)
    (hcd:(x==("__classdict__":Str))=false:=by decide):PE X (.Name x pos) (tVar i):=zgV hN hv hd hcd
end
theorem ite2 {c A B:Prop} [Decidable c] (h1:c→A) (h2:¬ c→B):if c then A else B:=by
  by_cases h:c
  · rw [if_pos h]
    exact h1 h
  · rw [if_neg h]
    exact h2 h
def Same (H H':Hp):Prop:=∀b o,H b=some o→H' b=some o
theorem Same.refl (H:Hp):Same H H:=fun _ _ h=>h
theorem Same.trans {H H1 H2:Hp} (a:Same H H1) (b:Same H1 H2):Same H H2:=fun c o h=>b c o (a c o h)
theorem Same.free {H H':Hp} (e:Same H H') {l:Addr} (h:H' l=Option.none):H l=Option.none:=by
  cases q:H l with
  | none=>rfl
  | some o =>
    rw [e l o q] at h
    cases h
theorem Same.seq {K:PySem.W.Frag} {H H':Hp} {a:Addr} {xs:List V} (e:Same H H') (h:SqL K H a xs):SqL K H' a xs:=by
  rcases h with (h | ⟨o,h⟩)|h
  · exact .inl (.inl (e _ _ h))
  · exact .inl (.inr ⟨o,e _ _ h⟩)
  · exact .inr h
end L2
end
section
-- text: PpDict
namespace L2
open PySem PySem.Spec PyProof.Rows
section
variable {κ:Type} [DecidableEq κ]
def valV (kvs:List (κ×V)) (k:κ):Option V:=(kvs.find? fun kv=>decide (kv.1=k)).map (·.2)
def putK (kvs:List (κ×V)) (k:κ) (v:V):List (κ×V) :=
  if (kvs.any fun kv=>decide (kv.1=k))=true then kvs.map (fun kv=>if kv.1=k then (kv.1,v) else kv) else kvs++[(k,v)]
theorem zd9 {p:κ×V} {r:List (κ×V)} {k:κ} (e:p.1=k):valV (p::r) k=some p.2:=by simp [valV,List.find?_cons,e]
theorem zem {p:κ×V} {r:List (κ×V)} {k:κ} (e:¬ p.1=k):valV (p::r) k=valV r k:=by simp [valV,List.find?_cons,e]
theorem zdM (kvs:List (κ×V)) (k:κ) (v:V):(putK kvs k v).length≤kvs.length+1:=by
  unfold putK
  split
  · rw [List.length_map];omega
  · rw [List.length_append,List.length_cons,List.length_nil];omega
theorem KV.val {kvs:List (κ×V)} {vs:List (κ×Value)} (r:KV kvs vs) (k:κ):RelO (valV kvs k) (valueAt vs k):=by
  unfold KV at r
  induction r with
  | nil=>exact True.intro
  | @cons p q ps qs h t ih =>
    obtain ⟨h1,h2⟩:=h
    by_cases e:p.1=k
    · have e':q.1=k:=h1.symm.trans e
      have b:valueAt (q::qs) k=some q.2:=by simp [valueAt,List.find?_cons,e']
      rw [zd9 e,b];exact h2
    · have e':¬ q.1=k:=fun z=>e (h1.trans z)
      have b:valueAt (q::qs) k=valueAt qs k:=by simp [valueAt,List.find?_cons,e']
      rw [zem e,b];exact ih
theorem KV.any {kvs:List (κ×V)} {vs:List (κ×Value)} (r:KV kvs vs) (k:κ):(kvs.any fun kv=>decide (kv.1=k))=vs.any fun kv=>decide (kv.1=k):=by
  unfold KV at r
  induction r with
  | nil=>rfl
  | cons h t ih=>rw [List.any_cons,List.any_cons,ih,h.1]
theorem KV.repl {kvs:List (κ×V)} {vs:List (κ×Value)} (r:KV kvs vs) (k:κ) {y:V} {u:Value} (ry:RelV y u) :
    KV (kvs.map fun kv=>if kv.1=k then (kv.1,y) else kv) (vs.map fun kv=>if kv.1=k then (kv.1,u) else kv):=by
  unfold KV at r ⊢
  induction r with
  | nil=>exact .nil
  | @cons p q ps qs h t ih =>
    rw [List.map_cons,List.map_cons]
    refine .cons ?_ ih
    obtain ⟨h1,h2⟩:=h
    by_cases e:p.1=k
    · rw [if_pos e,if_pos (h1.symm.trans e)];exact ⟨h1,ry⟩
    · rw [if_neg e,if_neg (fun z=>e (h1.trans z))];exact ⟨h1,h2⟩
theorem KV.put {kvs:List (κ×V)} {vs:List (κ×Value)} (r:KV kvs vs) (k:κ) {y:V} {u:Value} (ry:RelV y u):KV (putK kvs k y) (stored vs k u):=by
  unfold putK stored
  rw [r.any k]
  by_cases e:(vs.any fun kv=>decide (kv.1=k))=true
  · rw [if_pos e,if_pos e];exact r.repl k ry
  · rw [if_neg e,if_neg e];exact Paired.snoc r ⟨rfl,ry⟩
theorem KV.keys {kvs:List (κ×V)} {vs:List (κ×Value)} (r:KV kvs vs):kvs.map (·.1)=vs.map (·.1):=by
  unfold KV at r
  induction r with
  | nil=>rfl
  | cons h t ih=>rw [List.map_cons,List.map_cons,ih,h.1]
end
theorem zfU {P:Program} {w:World} {k:Key} {u:Value} (r:RelV (kV k) u):(yaF P w).is k u=true:=by
  cases k with
  | inl i=>obtain ⟨t,e⟩:=(show ∃t,u=Value.int i t from r);subst e;exact ydY P w i t
  | inr x=>obtain ⟨t,e⟩:=(show ∃t,u=Value.str x t from r);subst e;exact zdR P w x t
theorem zdn {P:Program} {w:World}:∀ {ks:List Key} {us:List Value},Vals (ks.map kV) us→ItemsAre (yaF P w) ks us
  | [],_,r=>by rw [List.map_nil] at r;cases r;exact .nil
  | k::ks,_,r=>by
    rw [List.map_cons] at r
    cases r with
    | cons h t=>exact .cons (zfU h) (zdn t)
abbrev KT (H:Hp):List (List Key×V)→List (List Key×Addr×Value)→Prop:=Paired fun p q=>p.1=q.1∧H q.2.1=some (.tup (p.1.map kV))∧RelV p.2 q.2.2
theorem KT.val {H:Hp} {kvs:List (List Key×V)} {xs:List (List Key×Addr×Value)} (r:KT H kvs xs) (k:List Key):RelO (valV kvs k) ((atKey xs k).map (·.2)):=by
  induction r with
  | nil=>exact True.intro
  | @cons p q ps qs h t ih =>
    obtain ⟨h1,_,h2⟩:=h
    by_cases e:p.1=k
    · have e':q.1=k:=h1.symm.trans e
      have b:atKey (q::qs) k=some q.2:=by simp [atKey,List.find?_cons,e']
      rw [zd9 e,b];exact h2
    · have e':¬ q.1=k:=fun z=>e (h1.trans z)
      have b:atKey (q::qs) k=atKey qs k:=by simp [atKey,List.find?_cons,e']
      rw [zem e,b];exact ih
section
variable {P:Program} {w:World} {H:Hp} {h:Heap} {a:Addr}
theorem zg9 {u:HO} (ok:HOk P w H h) (e:Rd H a u):zaW P w H h a u:=e.ok ok
theorem zgC {kvs:List (Key×V)} (ok:HOk P w H h) (e:Rd H a (.dK kvs)):kvs.length≤sizeLine∧(a==sysModules)=false∧∃vs,KV kvs vs∧h.DictOf (yaF P w) a vs :=
  show zaW P w H h a (.dK kvs) from zg9 ok e
theorem zhh {kvs:List (Key×V)} (ok:HOk P w H h) (e:H a=some (.dK kvs)):kvs.length≤sizeLine∧(a==sysModules)=false∧∃vs,KV kvs vs∧h.DictOf (yaF P w) a vs:=zgC ok (.inl e)
theorem yf9 {ks:List Key} (ok:HOk P w H h) (e:H a=some (.tup (ks.map kV))):(tupleKind (yaF P w)).is h ks a:=by
  obtain ⟨_,its,r,o,h1,h2,n,h3⟩:=(show zaW P w H h a (.tup (ks.map kV)) from ok a _ e)
  exact ⟨o,its.toArray,n,h1,h2,h3,by simpa using zdn r⟩
theorem zgR {kvs:List (List Key×V)} (ok:HOk P w H h) (e:Rd H a (.dT kvs)):kvs.length≤sizeLine∧(a==sysModules)=false∧
    ∃xs,KT H kvs xs∧h.DictOfH (tupleKind (yaF P w)) a xs:=by
  obtain ⟨z,y,xs,r,o,es,ep,h1,h2,h3,h4,h5⟩:=(show zaW P w H h a (.dT kvs) from zg9 ok e)
  refine ⟨z,y,xs,r,o,es,ep,h1,h2,h3,h4,fun x hx=>?_,h5⟩
  have all:∀ {l:List (List Key×V)} {m:List (List Key×Addr×Value)},KT H l m→∀x∈m,(tupleKind (yaF P w)).is h x.1 x.2.1:=by
    intro l m q
    induction q with
    | nil=>intro x hx;exact nomatch hx
    | @cons p q ps qs hq t ih =>
      intro x hx
      rcases List.mem_cons.mp hx with e|hx
      · subst e
        exact yf9 ok (by rw [←hq.1];exact hq.2.1)
      · exact ih x hx
  exact all r x hx
end
def DGet (H:Hp) (a:Addr) (y:V) (r:Option V):Prop :=
  (∃kvs k,Rd H a (.dK kvs)∧y=kV k∧r=valV kvs k)∨∃kvs k b,Rd H a (.dT kvs)∧y = .ref b∧H b=some (.tup (k.map kV))∧r=valV kvs k
theorem DGet.k {H:Hp} {a:Addr} {kvs:List (Key×V)} {k:Key} (e:H a=some (.dK kvs)):DGet H a (kV k) (valV kvs k):=.inl ⟨kvs,k,.inl e,rfl,rfl⟩
section
variable {X:Cx} {pins:List (Addr×Obj)} {σ:St} {H:Hp} {s:Shared} {a:Addr} {y v:V} {u r:Value} {o:Option V} {A:Around} {E:Value→Shared→Prop}
theorem Inv.big (I:Inv X pins σ H s):sysModules<s.heap.objs.size:=by
  have h:mainGlobals<s.heap.objs.size:=(I.mod.glob.keeps I.bk).lt
  exact Nat.lt_trans (by decide) h
theorem ze0 {Q:Value→Shared→Prop} (hu:A.units+1<cLine) (I:Inv X pins σ H s) (g:DGet H a y (some v)) (ry:RelV y u) (h:∀w' s',Inv X pins σ H s'→RelV v w'→Q w' s') :
    wpAny (model X.prog X.w) A (getItem (.ref a) u) Q E s:=by
  rcases g with ⟨kvs,k,e,ey,l⟩ | ⟨kvs,k,b,e,ey,eb,l⟩
  · subst ey
    obtain ⟨z,hd,vs,rel,dd⟩:=zgC I.hok e
    obtain ⟨w',hw,rw'⟩:=RelO.some_of (v:=v) (o:=valueAt vs k) (by rw [l];exact rel.val k)
    exact wpAny_getItem_of (zfU ry) dd.mapOf hw (h w' _ (I.tok _) rw')
  · subst ey
    cases (show u=Value.ref b from ry)
    obtain ⟨z,hd,xs,rel,dd⟩:=zgR I.hok e
    obtain ⟨w',hw,rw'⟩:=RelO.some_of (v:=v) (o:=(atKey xs k).map (·.2)) (by rw [l];exact rel.val k)
    obtain ⟨p,hp,hp2⟩:=Option.map_eq_some_iff.mp hw
    refine wpAny_getItem_heap (tupleKind_room_in1 hu) (yf9 I.hok eb) dd hp ?_
    rw [hp2]
    exact h w' _ (I.tok _) rw'
theorem zgy {h':Heap} {t':Nat} {ob:HO} (I:Inv X pins σ H s) (mu:Mut (H a)) (hs:Heap.SameBut a s.heap h') (he:∃q,h'.get? a=some q) (new:zaW X.prog X.w (upd H a ob) h' a ob) :
    Inv X pins σ (upd H a ob) { s with heap:=h',toks:=t' } :=
  I.write (x:=a) (e:=a) mu (.inl rfl) (fun b q hb z=>(hs.2 b hb).trans z) he new
theorem ygR {P:Program} {w:World} {H':Hp} {h':Heap} {kvs:List (Key×V)} {vs:List (Key×Value)} (z:kvs.length≤sizeLine) (hd:(a==sysModules)=false) (rel:KV kvs vs) (dd:h'.DictOf (yaF P w) a vs) :
    zaW P w H' h' a (.dK kvs):=⟨z,hd,vs,rel,dd⟩
end
section
variable {X:Cx} {pins:List (Addr×Obj)} {σ:St} {H:Hp} {s:Shared} {a:Addr} {kvs:List (Key×V)} {k:Key} {u:Value} {A:Around} {E:Value→Shared→Prop}
end
def NoSl (i:Expr):Prop:=∀ov iv,subscripted i false ov iv=operate [ov,iv] (getItem ov iv)
theorem zgD {prog:Program} {w:World} {A:Around} {E:Value→Shared→Prop} {s:Shared} {env:Env} {value slice:Expr} {pos:Pos} {T id:String} {Q:Value→Shared→Prop}
    (hl:typeLookup (.type T) "__getitem__"=pure (some (.builtin id))) (hs:NoSl slice)
    (h:wpAny (model prog w) A (eval value env) (fun o s₁=>wpAny (model prog w) A (eval slice env) (fun i s₂=>s₂.TypeIs o T∧wpAny (model prog w) A (getItem o i) Q E s₂) E s₁) E s) :
    wpAny (model prog w) A (eval (.Subscript value slice pos) env) Q E s:=by
  refine Subscript_ (wpAny_mono h (fun o s₁ h₁=>wpAny_mono h₁ (fun i s₂ h₂=>?_) fun _ _ x=>x) fun _ _ x=>x)
  obtain ⟨hT,h₂⟩:=h₂
  unfold subscriptTail
  refine wpAny_bind ?_
  rw [getitemInPython_of_ne hT.not_modules]
  refine wpAny_bind (wpAny_specialOf hT hl ?_)
  have fin:wpAny (model prog w) A (subscripted slice false o i) (fun r s₃=>wpAny (model prog w) A (letTemporaryGo value o r >>= fun _=>pure r) Q E s₃) E s₂:=by
    rw [hs o i]
    exact wpAny_operating (wpAny_mono h₂ (fun r s₃ h₃=>wpAny_bind (wpAny_letTemporaryGo (wpAny_pure h₃))) fun _ _ x=>x)
  first
    | exact wpAny_pure (wpAny_bind fin)
    | exact wpAny_bind (wpAny_pure (wpAny_bind fin))
    | exact wpAny_bind fin
theorem zdZ {X:Cx} {pins:List (Addr×Obj)} {σ:St} {H:Hp} {s:Shared} {a:Addr} {y:V} {o:Option V} (I:Inv X pins σ H s) (g:DGet H a y o):s.TypeIs (.ref a) "dict":=by
  rcases g with ⟨kvs,k,e,_,_⟩ | ⟨kvs,k,b,e,_,_,_⟩
  · obtain ⟨_,_,vs,_,dd⟩:=zgC I.hok e
    exact dd.typeIs
  · obtain ⟨_,_,xs,_,dd⟩:=zgR I.hok e
    exact dd.typeIs
def yhl (td ty:TE):TE:=fun σ H Q=>td σ H fun x H1=>ty σ H1 fun y H2=>∃a v,x = .ref a∧DGet H2 a y (some v)∧Q v H2
section
variable {X:Cx} {o i e value:Expr} {pos pos' tpos:Pos} {td ty tv:TE}
theorem ya3 (hu:X.A.units+1<cLine) (ho:PE X o td) (hi:PE X i ty) (hs:NoSl i):PE X (.Subscript o i pos) (yhl td ty):=by
  intro pins s σ H Q I h
  refine zgD PySem.F.slot_dict_getitem.lookup hs (thn (ho pins s σ H _ I h) fun u s1 ⟨x,H1,I1,rx,q1⟩=>thn (hi pins s1 σ H1 _ I1 q1) fun iv s2 ⟨y,H2,I2,ry,a,v,ex,g,q2⟩=>?_)
  subst ex
  obtain rfl:u=Value.ref a:=rx
  exact ⟨zdZ I2 g,ze0 hu I2 g ry fun w' s3 I3 rw'=>⟨v,H2,I3,rw',q2⟩⟩
end
theorem yfT {P:Program} {w:World} {H:Hp} (h:Heap) (hb:sysModules<h.objs.size):zaW P w H (h.push { cls:=.type "dict",data:=.dict #[] }) h.objs.size (.dK []) :=
  ⟨Nat.zero_le _,beq_eq_false_iff_ne.mpr (Ne.symm (Nat.ne_of_lt hb)),[],.nil,Heap.DictOf.new h⟩
section
variable {X:Cx} {pos:Pos}
end
def zeP:List (TE×TE)→St→Hp→(List (V×V)→Hp→Prop)→Prop
  | [],_,H,Q=>Q [] H
  | (tk,tv)::r,σ,H,Q=>tk σ H fun x H1=>tv σ H1 fun y H2=>zeP r σ H2 fun ps H3=>Q ((x,y)::ps) H3
abbrev VV:List (V×V)→List (Value×Value)→Prop:=Paired fun p q=>RelV p.1 q.1∧RelV p.2 q.2
def PPs (X:Cx) (pos:Pos) (keys:List (Option Expr)) (values:List Expr) (trs:List (TE×TE)):Prop :=
  ∀(pins:List (Addr×Obj)) (s:Shared) (σ:St) (H:Hp) (Q:List (V×V)→Hp→Prop),Inv X pins σ H s→zeP trs σ H Q→
    wpAny (model X.prog X.w) X.A (evalPairs (pairTrees keys values X.env pos)) (fun vs s'=>∃ps H',Inv X pins σ H' s'∧VV ps vs∧Q ps H') X.xe s
theorem zgr {X:Cx} {pos:Pos}:PPs X pos [] [] []:=fun pins s σ H Q I h=>pairTrees_nil_walk ⟨[],H,I,.nil,h⟩
theorem zbF {X:Cx} {pos:Pos} {k v:Expr} {ks:List (Option Expr)} {vs:List Expr} {tk tv:TE} {trs:List (TE×TE)} (hk:PE X k tk) (hv:PE X v tv) (hr:PPs X pos ks vs trs) :
    PPs X pos (some k::ks) (v::vs) ((tk,tv)::trs):=fun pins s σ H Q I h =>
  pairTrees_cons_walk (thn (hk pins s σ H _ I h) fun u s1 ⟨x,H1,I1,rx,q1⟩=>thn (hv pins s1 σ H1 _ I1 q1) fun w2 s2 ⟨y,H2,I2,ry,q2⟩ =>
    thn (hr pins s2 σ H2 _ I2 q2) fun ws s3 ⟨ps,H3,I3,rel,q3⟩=>⟨(x,y)::ps,H3,I3,.cons ⟨rx,ry⟩ rel,q3⟩)
def zcO (kvs more:List (Key×V)):List (Key×V):=more.foldl (fun acc kv=>putK acc kv.1 kv.2) kvs
theorem KV.merge:∀ {more:List (Key×V)} {rs:List (Key×Value)} {kvs:List (Key×V)} {vs:List (Key×Value)},KV more rs→KV kvs vs→KV (zcO kvs more) (merged vs rs):=by
  intro more rs kvs vs r
  unfold KV at r
  induction r generalizing kvs vs with
  | nil=>intro q;exact q
  | @cons p q ps qs h t ih =>
    intro r0
    have e:KV (putK kvs p.1 p.2) (stored vs q.1 q.2):=by
      have:=r0.put p.1 h.2
      rw [←h.1];exact this
    exact ih e
theorem ybN:∀(more kvs:List (Key×V)),(zcO kvs more).length≤kvs.length+more.length
  | [],kvs=>by show kvs.length≤kvs.length+0;omega
  | p::r,kvs=>by
    have h1:=ybN r (putK kvs p.1 p.2)
    have h2:=zdM kvs p.1 p.2
    show (zcO (putK kvs p.1 p.2) r).length≤_
    rw [List.length_cons];omega
theorem zcI {P:Program} {w:World}:∀ {kvs:List (Key×V)} {ws:List (Value×Value)},VV (kvs.map fun kv=>(kV kv.1,kv.2)) ws→∃rs,Carries (yaF P w) ws rs∧KV kvs rs
  | [],_,r=>by rw [List.map_nil] at r;cases r;exact ⟨[],True.intro,.nil⟩
  | p::kvs,_,r=>by
    rw [List.map_cons] at r
    cases r with
    | @cons a b as bs h t =>
      obtain ⟨rs,c,q⟩:=zcI (P:=P) (w:=w) t
      obtain ⟨b1,b2⟩:=b
      exact ⟨(p.1,b2)::rs,⟨zfU h.1,rfl,c⟩,.cons ⟨rfl,h.2⟩ q⟩
def zho (trs:List (TE×TE)):TE:=fun σ H Q=>∀p,H p=none→zeP trs σ (upd H p (.dK [])) fun ps H2=>H2 p=some (.dK [])∧∃kvs:List (Key×V),ps=kvs.map (fun kv=>(kV kv.1,kv.2))∧kvs.length≤15∧Q (.ref p) (upd H2 p (.dK (zcO [] kvs)))
theorem ygB {X:Cx} {pos:Pos} {keys:List (Option Expr)} {values:List Expr} {trs:List (TE×TE)} (h:PPs X pos keys values trs) (hall:keys.all (·.isSome)=true) (hl:keys.length=values.length) (h0:keys≠[])
    (h15:keys.length≤15):PE X (.Dict keys values pos) (zho trs):=by
  intro pins s σ H Q I q
  have hn:=I.hok.fresh (Nat.le_refl s.heap.objs.size)
  have I1:=I.laid (a:=s.heap.objs.size) (o:=.dK []) (h':=s.heap.push { cls:=.type "dict",data:=.dict #[] }) (t':=s.toks) (fun _ _ q=>Heap.get?_push_of_some _ q) (Nat.le_refl _) (yfT s.heap I.big)
  refine wpAny_Dict_walk (knd:=yaF X.prog X.w) hall hl h0 h15 (thn (h pins _ σ _ _ I1 (q _ hn)) fun ws s2 ⟨ps,H2,I2,rel,e,kvs,ep,lk,q2⟩=>?_)
  subst ep
  obtain ⟨rs,c,rk⟩:=zcI (P:=X.prog) (w:=X.w) rel
  obtain ⟨z,hd,vs0,r0,dd⟩:=zhh I2.hok e
  cases r0
  refine ⟨rs,c,dd,fun h' dd' hs=>⟨.ref s.heap.objs.size,_,?_,rfl,q2⟩⟩
  have hz:(zcO [] kvs).length≤sizeLine:=by
    have h1:=ybN kvs []
    rw [List.length_nil] at h1
    rw [sizeLine_eq];omega
  have he:∃q,h'.get? s.heap.objs.size=some q:=let ⟨q,_,_,hq,_⟩:=dd';⟨q,hq⟩
  exact zgy I2 (by rw [e];exact True.intro) hs he (ygR hz hd (rk.merge .nil) dd')
structure M1 (X:Cx) (o:Expr) (m:Str) (apos:Pos) (e:Expr) (cpos:Pos):Prop where
  base:attributeBase o m X.env (eval o X.env)=eval o X.env
  few:((backTo cpos (starEach [e] X.env)).all (fun x=>!x.1)&&(backToKw cpos (keywordEach [] X.env)).all (fun x=>x.1.isSome)
    && decide (([e]:List Expr).length+([]:List Keyword).length+(if ([]:List Keyword).isEmpty then 0 else 1)<30))=true
  line:(apos.endLine==cpos.line)=true
  trees:backTo cpos (starEach [e] X.env)=[(false,eval e X.env)]
structure M2 (X:Cx) (o:Expr) (m:Str) (apos:Pos) (e f:Expr) (cpos:Pos):Prop where
  base:attributeBase o m X.env (eval o X.env)=eval o X.env
  few:((backTo cpos (starEach [e,f] X.env)).all (fun x=>!x.1)&&(backToKw cpos (keywordEach [] X.env)).all (fun x=>x.1.isSome)
    && decide (([e,f]:List Expr).length+([]:List Keyword).length+(if ([]:List Keyword).isEmpty then 0 else 1)<30))=true
  line:(apos.endLine==cpos.line)=true
  trees:backTo cpos (starEach [e,f] X.env)=[(false,eval e X.env),(false,eval f X.env)]
section
variable {X:Cx} {pins:List (Addr×Obj)} {σ:St} {H:Hp} {s:Shared} {a:Addr} {y d:V} {u r:Value} {o:Option V} {A:Around} {E:Value→Shared→Prop}
end
section
variable {X:Cx} {o e f:Expr} {apos cpos:Pos} {td ty tx:TE}
end
section
variable {X:Cx} {pins:List (Addr×Obj)} {σ:St} {H:Hp} {s:Shared} {a:Addr} {kvs:List (Key×V)} {A:Around} {E:Value→Shared→Prop}
end
section
variable {X:Cx} {pins:List (Addr×Obj)} {σ:St} {H:Hp} {s:Shared} {a:Addr} {y:V} {u:Value} {A:Around} {E:Value→Shared→Prop}
end
end L2
namespace L2
open PySem PySem.Spec PyProof.Rows
section
variable {X:Cx}
end
end L2
namespace L2
open PySem PySem.Spec PyProof.Rows
section
variable {κ:Type} [DecidableEq κ]
end
end L2
end
section
-- text: ExtA
namespace L2
open PySem PySem.Spec PyProof.Rows
section
variable {prog:Program} {w:World} {A:Around} {R:Result→Shared→Prop} {s:Shared}
theorem yd1 {elt target iter:Expr} {ifs:List Expr} {scope:Scope} {pos:Pos} {it acc:Value} {env:Env} (I:Nat→Shared→Prop)
    (turn:∀n s,I n s→wpAny (model prog w) A (pyNext it) (fun r s₁=>match r with
      | none=>R (.ok .next) s₁
      | some v=>wpAny (model prog w) A (letOwnedTupleGo target it v) (fun _ s₁'=>wpAny (model prog w) A (assign target env v) (fun _ s₂ =>
          wpAny (model prog w) A (forIn ifs true fun c r=>if r=true then do let ok ←isTrue c env (eval c env);pure (ForInStep.yield ok) else pure (ForInStep.yield r)) (fun ok s₃ =>
            if ok=true then wpAny (model prog w) A (eval elt env) (fun x s₄ =>
              wpAny (model prog w) A (call (.builtin "list.append") [acc,x]) (fun _ s₅=>∃m,m<n∧I m s₅) (fun _ _=>False) s₄) (fun _ _=>False) s₃
            else ∃m,m<n∧I m s₃) (fun _ _=>False) s₂) (fun _ _=>False) s₁') (fun _ _=>False) s₁) (fun _ _=>False) s)
    (n:Nat) (h:I n s):codeAny (model prog w) A (.compLoop (.ListComp elt [⟨target,iter,ifs,0⟩] scope pos) 0 it acc env) R s:=by
  refine codeAny_loop rfl I (fun n s hI=>?_) n h
  show wpAny _ A ((compTurn (.ListComp elt [⟨target,iter,ifs,0⟩] scope pos) 0 it acc env).onRaise (fun x=>do noteFrame x env;theTreesLotGoes x)) _ _ s
  refine wpAny_noted (wpAny_noRaise ?_)
  rw [compTurn_list]
  refine wpAny_bind (wpAny_standAt (wpAny_bind (wpAny_mono (turn n s hI) (fun r s₁ h₁=>?_) fun _ _ h'=>h')))
  cases r with
  | none=>exact wpAny_pure h₁
  | some v =>
    refine wpAny_bind (wpAny_mono h₁ (fun _ s₁' h₁'=>?_) fun _ _ h'=>h')
    refine wpAny_bind (wpAny_mono h₁' (fun _ s₂ h₂=>wpAny_bind (wpAny_mono h₂ (fun ok s₃ h₃=>?_) fun _ _ h'=>h')) fun _ _ h'=>h')
    cases ok with
    | false=>exact wpAny_pure ⟨rfl,h₃⟩
    | true =>
      exact wpAny_bind (wpAny_bind (wpAny_mono h₃ (fun x s₄ h₄=>wpAny_bind (wpAny_mono h₄ (fun _ s₅ h₅=>wpAny_pure (wpAny_pure ⟨rfl,h₅⟩)) fun _ _ h'=>h')) fun _ _ h'=>h'))
end
theorem yaR {α:Type} {x:Str} {k:α}:∀ {l:List (Str×α)},l.lookup x=some k→(x,k)∈l:=fun h=>PySem.mem_of_lookup h
theorem zba {scope:Scope} {env:Env} (h:∀x∈scope.names,x.2 = .free→∃c,env.cells.lookup x.1=some c) :
    ∃cl,closureFor scope env=pure cl∧(∀n c,cl.lookup n=some c→env.cells.lookup n=some c)∧(∀n,(n,NameKind.free)∈scope.names→∃c,cl.lookup n=some c):=by
  have aux:∀(names:List (Str×NameKind)) (cs:List (Str×Addr)),(∀x∈names,x.2 = .free→∃c,env.cells.lookup x.1=some c)→(∀n c,cs.lookup n=some c→env.cells.lookup n=some c)→
      ∃cl,(forIn names cs fun x r=>if (x.2==NameKind.free)=true then do let a ←cellOf env x.1;pure (ForInStep.yield ((x.1,a)::r)) else pure (ForInStep.yield r):Sem (List (Str×Addr)))=pure cl∧
        (∀n c,cl.lookup n=some c→env.cells.lookup n=some c)∧(∀n,((n,NameKind.free)∈names∨∃c,cs.lookup n=some c)→∃c,cl.lookup n=some c):=by
    intro names
    induction names with
    | nil=>intro cs _ hc;exact ⟨cs,rfl,hc,fun n h=>h.elim (fun z=>nomatch z) id⟩
    | cons x r ih =>
      intro cs hx hc
      obtain ⟨n,k⟩:=x
      have hr:∀x∈r,x.2 = .free→∃c,env.cells.lookup x.1=some c:=fun y hy=>hx y (List.mem_cons_of_mem _ hy)
      by_cases hk:k = .free
      · subst hk
        obtain ⟨c,e⟩:=hx (n,.free) List.mem_cons_self rfl
        have hc':∀m d,List.lookup m ((n,c)::cs)=some d→env.cells.lookup m=some d:=fun m d hm=>by
          rw [List.lookup_cons] at hm
          cases hb:m==n with
          | true=>rw [hb] at hm;cases hm;rw [eq_of_beq hb];exact e
          | false=>rw [hb] at hm;exact hc m d hm
        obtain ⟨cl,h1,h2,h3⟩:=ih ((n,c)::cs) hr hc'
        refine ⟨cl,?_,h2,fun m hm=>h3 m ?_⟩
        · rw [List.forIn_cons]
          have e2:cellOf env n=pure c:=by unfold cellOf;rw [e]
          simp only [beq_self_eq_true,if_true,e2]
          exact h1
        · rcases hm with hm | ⟨d,hm⟩
          · rcases List.mem_cons.mp hm with q|q
            · cases q;exact .inr ⟨c,by rw [List.lookup_cons,beq_self_eq_true]⟩
            · exact .inl q
          · refine .inr ?_
            rw [List.lookup_cons]
            cases hb:m==n with
            | true=>exact ⟨c,rfl⟩
            | false=>exact ⟨d,hm⟩
      · obtain ⟨cl,h1,h2,h3⟩:=ih cs hr hc
        refine ⟨cl,?_,h2,fun m hm=>h3 m ?_⟩
        · rw [List.forIn_cons]
          have:(k==NameKind.free)=false:=by simpa using hk
          simp only [this,Bool.false_eq_true,if_false]
          exact h1
        · rcases hm with hm|hm
          · rcases List.mem_cons.mp hm with q|q
            · cases q;exact absurd rfl hk
            · exact .inl q
          · exact .inr hm
  obtain ⟨cl,h1,h2,h3⟩:=aux scope.names [] h (fun n c z=>by simp at z)
  refine ⟨cl,?_,h2,fun n hn=>h3 n (.inl hn)⟩
  simp only [closureFor]
  rw [h1]
  rfl
theorem yaL {env:Env}:∀ {names:List (Str×NameKind)} {x:Str} {k:NameKind},
    (names.map fun (n,k)=>if (k==NameKind.free&&env.scope.kind==.function&&env.kindOf n==some .cell) then (n,NameKind.cell) else (n,k)).lookup x=some k→(k = .cell∨k = .free)→
    names.lookup x=some .free∨names.lookup x=some .cell
  | [],_,_,h,_=>by simp at h
  | (n,q)::r,x,k,h,hk=>by
    have ih:=@yaL env r x k
    rw [List.map_cons,List.lookup_cons] at h
    rw [List.lookup_cons]
    by_cases hc:(q==NameKind.free&&env.scope.kind==.function&&env.kindOf n==some .cell)=true
    · simp only [if_pos hc] at h
      cases hx:x==n with
      | true =>
        have:q = .free:=by
          have:=(Bool.and_eq_true_iff.mp (Bool.and_eq_true_iff.mp hc).1).1
          exact eq_of_beq this
        simp [this]
      | false=>rw [hx] at h;exact ih h hk
    · simp only [if_neg hc] at h
      cases hx:x==n with
      | true =>
        rw [hx] at h
        cases h
        rcases hk with rfl|rfl
        · exact .inr rfl
        · exact .inl rfl
      | false=>rw [hx] at h;exact ih h hk
theorem zbA {env:Env}:∀ {names:List (Str×NameKind)} {x:Str},names.lookup x=some .free→
    (names.map fun (n,k)=>if (k==NameKind.free&&env.scope.kind==.function&&env.kindOf n==some .cell) then (n,NameKind.cell) else (n,k)).lookup x=some .cell∨
    (names.map fun (n,k)=>if (k==NameKind.free&&env.scope.kind==.function&&env.kindOf n==some .cell) then (n,NameKind.cell) else (n,k)).lookup x=some .free
  | [],_,h=>by simp at h
  | (n,q)::r,x,h=>by
    have ih:=@zbA env r x
    rw [List.map_cons,List.lookup_cons]
    rw [List.lookup_cons] at h
    by_cases hc:(q==NameKind.free&&env.scope.kind==.function&&env.kindOf n==some .cell)=true
    · simp only [if_pos hc]
      cases hx:x==n with
      | true=>exact .inl rfl
      | false=>rw [hx] at h;exact ih h
    · simp only [if_neg hc]
      cases hx:x==n with
      | true=>rw [hx] at h;cases h;exact .inr rfl
      | false=>rw [hx] at h;exact ih h
def cxC (X:Cx) (N:List Str) (scope:Scope) (cl:List (Str×Addr)) (C:Addr) (fp:List Addr) (s:Shared) (H:Hp):Cx :=
  { prog:=X.prog,w:=X.w,K:=X.K,mg:=X.mg,base:=X.base,A:=X.A,N:=N,s₀:=s,H₀:=H,env:=compEnvC scope cl C X.env,outer:=X.stack,stack:=X.stack,ex:=fp,fn:=fun _=>false,calm:=X.calm,pn:=[],xe:=fun _ _=>False }
structure CSc (M:List Str) (sc:Scope) (tg cp:List Str) (ci:List Nat) (scope:Scope):Prop where
  kind:scope.kind = .function
  nocell:∀x∈scope.names,x.2≠.cell
  loc:∀x∈scope.names,x.2 = .local→scope.names.lookup x.1=some .local
  free:∀x∈scope.names,x.2 = .free→sc.names.lookup x.1=some .cell∨sc.names.lookup x.1=some .free
  cap:∀x∈cp,scope.names.lookup x=some .free
  at_:ci.map (M[·]?)=cp.map some
  nd:(tg++cp).Nodup
def capσ (k:Nat) (ci:List Nat) (σ:St):St:=List.replicate k none++ci.map fun i=>(σ[i]?).join
abbrev yfZ:=Nat→Nat→List V→Hp→Prop
def zgl (wi:TI) (k:Nat) (ci:List Nat) (g:TG) (ti:TT) (te:TE):TE:=fun σ H Q=>wi σ H fun J H1=>∃W:yfZ,(∃m,W 0 m [] H1)∧∀i m acc H,W i m acc H→
  (J.stop i H∧∀D,H D=none→Q (.ref D) (upd H D (.lst acc)))∨
  (J.go i H∧acc.length<sizeLine∧∃N:List V→Hp→Prop,(∀acc' H',N acc' H'→∃m',m'<m∧W (i+1) m' acc' H')∧∀x H',J.yld i H x H'→g x (capσ k ci σ) H' fun σ2 H2=>ti σ2 H2 fun b H3=>if b=true then te σ2 H3 fun v H4=>N (acc++[v]) H4 else N acc H3)
def PIfs (X:Cx) (ifs:List Expr) (t:TT):Prop :=
  ∀(pins:List (Addr×Obj)) (s:Shared) (σ:St) (H:Hp) (Q:Bool→Hp→Prop),Inv X pins σ H s→t σ H Q→
    wpAny (model X.prog X.w) X.A (forIn ifs true fun c r=>if r=true then do let ok ←isTrue c X.env (eval c X.env);pure (ForInStep.yield ok) else pure (ForInStep.yield r)) (TP X pins σ Q) X.xe s
def yht:TT:=fun _ H Q=>Q true H
theorem za6 {X:Cx}:PIfs X [] yht:=fun pins s σ H Q I h=>wpAny_tests_nil ⟨H,I,h⟩
theorem ycc {X:Cx} {c:Expr} {t:TT} (h:PT X c t):PIfs X [c] t:=fun pins s σ H Q I hq=>wpAny_tests_one (h pins s σ H Q I hq)
section
variable {X:Cx}
structure Gone (X:Cx) (pins:List (Addr×Obj)) (H:Hp) (s:Shared) (C:Addr):Prop where
  ns:∃m,s.heap.Ns C m
  free:H C=none
  ne:C≠X.env.locals
  ab:X.s₀.heap.objs.size≤C
  cells:∀x c,X.env.cells.lookup x=some c→c≠C
  pins:∀p∈X.pn++pins,p.1≠C
  nofs:C∉X.fs
theorem yeg {elt target iter:Expr} {ifs:List Expr} {scope:Scope} {pos:Pos} {tg cp:List Str} {ci:List Nat} {wi:TI} {g:TG} {ti:TT} {te:TE}
    {pins:List (Addr×Obj)} {s:Shared} {σ:St} {H:Hp} {Q:VK} {cl:List (Str×Addr)}
    (S:CSc X.N X.env.scope tg cp ci scope) (hcalm:X.calm=true) (hi:PI X target iter wi)
    (hcl1:∀n c,cl.lookup n=some c→X.env.cells.lookup n=some c) (hcl2:∀n,(n,NameKind.free)∈scope.names→∃c,cl.lookup n=some c)
    (hg:∀C fp s H,PG (cxC X (tg++cp) scope cl C fp s H) target g) (ht:∀C fp s H,PIfs (cxC X (tg++cp) scope cl C fp s H) ifs ti) (he:∀C fp s H,PE (cxC X (tg++cp) scope cl C fp s H) elt te)
    (I:Inv X pins σ H s) (h:zgl wi tg.length ci g ti te σ H Q) :
    wpAny (model X.prog X.w) X.A (eval iter X.env) (fun x s₁=>wpAny (model X.prog X.w) X.A (pyIter x) (fun it s₂=>wpAny (model X.prog X.w) X.A (newList []) (fun acc s₃ =>
      wpAny (model X.prog X.w) X.A (newFunctionEnv scope X.env.globals cl [] X.env.qual none .none (some X.env)) (fun cenv s₄ =>
        codeAny (model X.prog X.w) X.A (.compStart (.ListComp elt [⟨target,iter,ifs,0⟩] scope pos) 0 it acc { cenv with scope:=relabel scope X.env })
          (fun r s'=>∃D vs H',acc = .ref D∧r = .ok .next∧Inv X pins σ (upd H' D (.lst vs)) s'∧H' D=none∧Gone X pins (upd H' D (.lst vs)) s' cenv.locals∧∀D',H' D'=none→Q (.ref D') (upd H' D' (.lst vs))) s₄) X.xe s₃) X.xe s₂) X.xe s₁) X.xe s:=by
  refine thn (hi pins s σ H _ I h) fun v s1 h1=>thn h1 fun itv s2 h2=>?_
  obtain ⟨it,fp,tn,J,H2,e,I2,T,st2,f2,W,⟨m0,w0⟩,turn⟩:=h2
  subst e
  refine wpAny_newObj_type (wpAny_newFunctionEnv S.nocell (by intro y hy;simp at hy) (fun h₁ hns₁ hsb₁=>?_) S.kind)
  dsimp only at hns₁ hsb₁ ⊢
  generalize hHL:s2.heap.push { cls:=.type "list",dict:=none,data:=.seq ([]:List Value).toArray }=HL at hns₁ hsb₁ ⊢
  have hC:HL.objs.size=s2.heap.objs.size+1:=by rw [←hHL,Heap.size_push]
  generalize hD:s2.heap.objs.size=D at hC ⊢
  generalize hCC:HL.objs.size=C at hns₁ hsb₁ hC ⊢
  have hDC:D≠C:=by omega
  have old:∀b o,s2.heap.get? b=some o→h₁.get? b=some o:=fun b o e=>by
    have lt:s2.heap.objs.size≥Nat.succ b:=Heap.lt_size e
    refine hsb₁.extBut b o (show @Ne Nat b C by omega) (Heap.get?_push_of_some _ (hHL ▸ Heap.get?_push_of_some _ e))
  have hD1:h₁.get? D=some { cls:=.type "list",data:=.seq ([]:List Value).toArray 0 }:=by
    refine hsb₁.extBut D _ hDC (Heap.get?_push_of_some _ ?_)
    rw [←hHL,←hD]
    exact Heap.get?_push_size _ rfl
  have fD:H2 D=none:=I2.hok.fresh (by omega)
  have fC:H2 C=none:=I2.hok.fresh (by omega)
  let X':Cx:=cxC X (tg++cp) scope cl C fp s2 H2
  have ok':X'.Ok:=by
    refine ⟨I2.ok.mod,?_,I2.ok.glob,I2.ok.blt,?_,?_,?_,?_,I2.ok.hd,I2.ok.frames,.inl rfl,?_,I2.bs,Nat.le_trans I2.ok.bsz I2.sz,?_,?_,I2.stack,I2.stkFree⟩
    · exact S.kind
    · show s2.heap.objs.size≤C;omega
    · intro x y c hx hy;exact I2.ok.inj x y c (hcl1 x c hx) (hcl1 y c hy)
    · intro x hx
      have hx':(relabel scope X.env).names.lookup x=some .cell∨(relabel scope X.env).names.lookup x=some .free:=hx
      have q:scope.names.lookup x=some .free∨scope.names.lookup x=some .cell:=by
        rcases hx' with z|z
        · exact yaL z (.inl rfl)
        · exact yaL z (.inr rfl)
      rcases q with q|q
      · exact hcl2 x (yaR q)
      · exact absurd rfl (S.nocell _ (yaR q))
    · intro x c hx;cases hx
    · intro b hb
      obtain ⟨o,eo,_⟩:=T.obj _ _ st2 b hb
      have lt:s2.heap.objs.size≥Nat.succ b:=Heap.lt_size eo
      exact ⟨by show @Ne Nat b C;omega,fun x c hx=>(f2 b hb).2.2.2.2.1 x c (hcl1 x c hx)⟩
    · intro b o e hb
      rcases (f2 b hb).2.2.2.1 with z|z
      · exact I2.ok.noex b o e z
      · have l1:X.base.objs.size≥Nat.succ b:=Heap.lt_size e
        have l2:X.base.objs.size≤X.s₀.heap.objs.size:=I2.ok.bsz
        have l3:X.s₀.heap.objs.size≤(b:Nat):=z
        omega
    · intro b hb hbs
      rcases List.mem_cons.mp (I2.stkSub b hbs) with z|z
      · exact (f2 b hb).2.1 z
      · exact (f2 b hb).2.2.1 z
  have capLen:(capσ tg.length ci σ).length=X'.N.length:=by
    show (List.replicate tg.length none++ci.map fun i=>(σ[i]?).join).length=(tg++cp).length
    have:=congrArg List.length S.at_
    simp only [List.length_map] at this
    simp [this]
  have capLook:∀(h':Heap) (m':Str→Option Value),(∀x c o,X.env.cells.lookup x=some c→s2.heap.get? c=some o→∃sl,h'.get? c=some { o with slots:=sl })→
      ∀(i:Nat) (x:Str) (v:V),X'.N[i]?=some x→(capσ tg.length ci σ)[i]?=some (some v)→Vis X'.env.scope x→∃u,RelV v u∧Look X'.env h' m' x u:=by
    intro h' m' hcell i x v e1 e2 e3
    have e1':(tg++cp)[i]?=some x:=e1
    have e2':(List.replicate tg.length none++ci.map fun i=>(σ[i]?).join)[i]?=some (some v):=e2
    by_cases hi':i<tg.length
    · rw [List.getElem?_append_left (by simpa using hi'),List.getElem?_replicate] at e2'
      split at e2' <;> cases e2'
    · rw [List.getElem?_append_right (by simpa using hi'),List.length_replicate,List.getElem?_map] at e2'
      rw [List.getElem?_append_right (by omega)] at e1'
      cases hj:ci[i-tg.length]? with
      | none=>rw [hj] at e2';cases e2'
      | some j =>
        rw [hj] at e2'
        have e2'':(σ[j]?).join=some v:=Option.some.inj e2'
        have e4:σ[j]?=some (some v):=by
          cases q:σ[j]? with
          | none=>rw [q] at e2'';cases e2''
          | some z=>rw [q] at e2'';exact congrArg some e2''
        have e5:X.N[j]?=some x:=by
          have:=congrArg (·[i-tg.length]?) S.at_
          simp only [List.getElem?_map,hj,e1',Option.map_some] at this
          exact Option.some.inj this
        have hx:scope.names.lookup x=some .free:=S.cap x (List.mem_of_getElem? e1')
        have hk:=S.free (x,.free) (yaR hx) rfl
        obtain ⟨m,hn,hl⟩:=I2.loc
        obtain ⟨u,r,l⟩:=hl j x v e5 e4 (.inr hk)
        refine ⟨u,r,.inr ⟨?_,?_⟩⟩
        · exact zbA hx
        · rcases l with ⟨k1,_⟩ | ⟨_,c,k2,k3⟩
          · have k1':X.env.scope.names.lookup x=some .local:=k1
            rcases hk with z|z <;> (rw [z] at k1';cases k1')
          · obtain ⟨c',hc'⟩:=hcl2 x (yaR hx)
            have:=hcl1 x c' hc'
            rw [k2] at this;cases this
            obtain ⟨o,ho,hd⟩:=k3
            obtain ⟨sl,q⟩:=hcell x c o k2 ho
            exact ⟨c,hc',_,q,hd⟩
  have I':∀tk,Inv X' [] (capσ tg.length ci σ) H2 { s2 with heap:=h₁,toks:=tk }:=fun tk=>by
    refine ⟨ok',rfl,I2.bare,Un.kept old,⟨_,hns₁,capLook _ _ fun x c o _ e=>⟨o.slots,old c o e⟩⟩,fun x c hx=>?_,fC,fun x c hx=>I2.freeC x c (hcl1 x c hx),fun p hp=>absurd (show p∈([]:List (Addr×Obj)) from hp) (by simp),I2.hok.kept old,?_⟩
    · obtain ⟨v,o,ho,hd⟩:=I2.cell x c (hcl1 x c hx)
      exact ⟨v,o,old c o ho,hd⟩
    · exact capLen
  have recap:∀ {pl pl':List (Addr×Obj)} {σ':St} {H':Hp} {s':Shared},Inv X' (pl++pl') σ' H' s'→Inv X' pl (capσ tg.length ci σ) H' s':=fun {pl pl' σ' H' s'} J=>by
    obtain ⟨m,hn,_⟩:=J.loc
    have u:Un (frs X.stack) fp H2 H' s2.heap s'.heap:=J.base
    exact ⟨J.ok,J.os,J.bare,J.base,⟨m,hn,capLook _ _ fun x c o hx e=>u.any e (I2.freeC x c hx) fun hb=>(f2 c hb).2.2.2.2.1 x c hx rfl⟩,J.cell,J.free,J.freeC,
      fun p hp=>(List.mem_append.mp hp).elim (fun z=>J.pin p (List.mem_append_left _ z)) (fun z=>J.pin p (List.mem_append_right _ (List.mem_append_left _ z))),J.hok,capLen⟩
  have stat:∀ {H':Hp},(∀b∈fp,H' b=none)→∀b∈fp,FpOk X' [] H' b:=fun hn b hb=>by
    obtain ⟨o,eo,_⟩:=T.obj _ _ st2 b hb
    have lt:s2.heap.objs.size≥Nat.succ b:=Heap.lt_size eo
    exact ⟨hn b hb,by show @Ne Nat b C;omega,ok'.exfs b hb,.inl hb,(ok'.exf b hb).2,fun p hp=>absurd (show p∈([]:List (Addr×Obj)) from hp) (by simp)⟩
  have hDfp:D∉fp:=fun hb=>by obtain ⟨o,eo,_⟩:=T.obj _ _ st2 D hb;have lt:s2.heap.objs.size≥Nat.succ D:=Heap.lt_size eo;omega
  have hDcell:∀x c,X'.env.cells.lookup x=some c→c≠D:=fun x c hx=>by
    obtain ⟨v,o,ho,hd⟩:=I2.cell x c (hcl1 x c hx)
    have lt:s2.heap.objs.size≥Nat.succ c:=Heap.lt_size ho
    intro z;have z':@Eq Nat c D:=z;omega
  have hDfs:D∉X'.fs:=fun hb=>by
    have:D∈X.env.locals::X.fs:=I2.stkSub D hb
    rcases List.mem_cons.mp this with z|z
    · have l1:s2.heap.objs.size≥Nat.succ X.env.locals:=I2.lt
      have z':@Eq Nat D X.env.locals:=z
      omega
    · exact I2.nofs (show s2.heap.objs.size≤D by omega) z
  have fin:∀ {pl:List (Addr×Obj)} {σ':St} {H':Hp} {s':Shared} {vs:List V} {us:List Value} {k:Nat},Inv X' pl σ' H' s'→H' D=none→s'.heap.get? D=some { cls:=.type "list",data:=.seq us.toArray k }→Vals vs us→vs.length≤sizeLine→
      (∀D',H' D'=none→Q (.ref D') (upd H' D' (.lst vs)))→
      ∃D' vs H',Value.ref D = .ref D'∧(Except.ok Flow.next:Result) = .ok .next∧Inv X pins σ (upd H' D' (.lst vs)) s'∧H' D'=none∧Gone X pins (upd H' D' (.lst vs)) s' C∧∀D',H' D'=none→Q (.ref D') (upd H' D' (.lst vs)):=by
    intro pl σ' H' s' vs us k J f e r z q
    have u:Un (frs X.stack) fp H2 H' s2.heap s'.heap:=J.base
    have lt:∀ {b:Addr} {o:Obj},s2.heap.get? b=some o→b≠D:=fun {b o} eb zb=>by
      have l1:s2.heap.objs.size≥Nat.succ b:=Heap.lt_size eb
      have l2:@Eq Nat b D:=zb
      omega
    have u2:Un (frs X.stack) fp H2 (upd H' D (.lst vs)) s2.heap s'.heap :=
      ⟨u.keep,u.slot,fun b o eb n hx=>by rw [zag (lt eb)];exact u.free b o eb n hx,u.there,
       fun b xs eb=>by rw [zag (yae eb fD)];exact u.tups b xs eb,fun b o uu eb=>by rw [zag (yae eb fD)];exact u.frzs b o uu eb,fun b ps eb=>by rw [zag (yae eb fD)];exact u.tbls b ps eb⟩
    have hok2:HOk X.prog X.w (upd H' D (.lst vs)) s'.heap:=fun b o eb=>by
      by_cases hb:b=D
      · subst hb
        rw [zab] at eb;cases eb
        exact ⟨z,us,k,r,e⟩
      · rw [zag hb] at eb
        refine (J.hok b o eb).stay (fun _ _ _ q=>q) (fun c hc=>?_) fun c xs hc=>?_
        · rw [zag (fun zz=>by rw [zz,f] at hc;cases hc)];exact hc
        · rw [zag (fun zz=>by rw [zz,f] at hc;cases hc)];exact hc
    refine ⟨D,vs,H',rfl,rfl,I2.call' (ch:=fp) J.os u2 hok2 J.bare ?_,f,⟨?_,?_,?_,?_,?_,?_,?_⟩,q⟩
    · intro b hb
      obtain ⟨_,a2,_,a4,a5,a6⟩:=f2 b hb
      exact ⟨a4,a2,a5,a6⟩
    · obtain ⟨m,hn,_⟩:=J.loc;exact ⟨m,hn⟩
    · rw [zag (Ne.symm hDC)];exact J.free
    · have l1:s2.heap.objs.size≥Nat.succ X.env.locals:=I2.lt
      intro zz;have zz':@Eq Nat C X.env.locals:=zz;omega
    · have l1:X.s₀.heap.objs.size≤s2.heap.objs.size:=I2.sz
      show X.s₀.heap.objs.size≤C;omega
    · intro x c hx zz
      obtain ⟨v,o,ho,hd⟩:=I2.cell x c hx
      have l1:s2.heap.objs.size≥Nat.succ c:=Heap.lt_size ho
      have zz':@Eq Nat c C:=zz
      omega
    · intro p hp zz
      have l1:s2.heap.objs.size≥Nat.succ p.1:=Heap.lt_size (I2.pin p hp).1
      have zz':@Eq Nat p.1 C:=zz
      omega
    · exact I2.nofs (show s2.heap.objs.size≤C by omega)
  have loop:∀tk,codeAny (model X.prog X.w) X.A (.compLoop (.ListComp elt [⟨target,iter,ifs,0⟩] scope pos) 0 (.ref it) (.ref D) (compEnvC scope cl C X.env))
      (fun r s'=>∃D' vs H',Value.ref D = .ref D'∧r = .ok .next∧Inv X pins σ (upd H' D' (.lst vs)) s'∧H' D'=none∧Gone X pins (upd H' D' (.lst vs)) s' C∧∀D',H' D'=none→Q (.ref D') (upd H' D' (.lst vs))) { s2 with heap:=h₁,toks:=tk }:=by
    intro tk
    refine yd1 (fun n s'=>∃i vs us k H',Inv X' [] (capσ tg.length ci σ) H' s'∧tn i s'.heap∧(∀b∈fp,H' b=none)∧H' D=none∧s'.heap.get? D=some { cls:=.type "list",data:=.seq us.toArray k }∧Vals vs us∧vs.length≤sizeLine∧W i n vs H') ?_ m0
      ⟨0,[],[],0,H2,I' tk,T.keep _ _ _ st2 (fun b hb o e=>old b o e),fun b hb=>(f2 b hb).1,fD,hD1,.nil,Nat.zero_le _,w0⟩
    rintro n s3 ⟨i,vs,us,k,H3,I3,st3,fr3,fD3,hD3,rv3,z3,w3⟩
    let pD:List (Addr×Obj):=[(D,{ cls:=.type "list",data:=.seq us.toArray k })]
    have pinD:∀ {σ':St} {H':Hp} {s':Shared},Inv X' [] σ' H' s'→H' D=none→s'.heap.get? D=some { cls:=.type "list",data:=.seq us.toArray k }→Inv X' pD σ' H' s':=fun {σ' H' s'} J f e =>
      J.pins_of fun p hp=>by
        have:p=(D,{ cls:=.type "list",data:=.seq us.toArray k }):=by simpa [pD] using hp
        subst this
        exact ⟨e,f,hDC,hDfs,fun v z=>by cases z⟩
    have statD:∀ {H':Hp},(∀b∈fp,H' b=none)→∀b∈fp,FpOk X' pD H' b:=fun hn b hb=>by
      obtain ⟨a1,a2,a3,a4,a5,_⟩:=stat hn b hb
      refine ⟨a1,a2,a3,a4,a5,fun p hp=>?_⟩
      have:p=(D,{ cls:=.type "list",data:=.seq us.toArray k }):=by
        have hp':p∈([]:List (Addr×Obj))++pD:=hp
        simpa [pD] using hp'
      subst this
      exact fun z=>hDfp (by rw [show D=b from z];exact hb)
    rcases turn i n vs H3 w3 with ⟨stop,qn⟩ | ⟨go,zl,N,hN,step⟩
    · refine thn (T.done X' rfl rfl rfl hcalm i pD s3 _ H3 _ (pinD I3 fD3 hD3) (statD fr3) st3 stop) fun r s4 ⟨hr,I4⟩=>?_
      subst hr
      have eD:s4.heap.get? D=some { cls:=.type "list",data:=.seq us.toArray k }:=(I4.pin (D,_) (by simp [pD])).1
      exact fin I4 fD3 eD rv3 z3 qn
    · refine thn (T.item X' rfl rfl rfl hcalm i pD s3 _ H3 _ (pinD I3 fD3 hD3) (statD fr3) st3 go) fun r s4 ⟨u,hr,h4⟩=>?_
      subst hr
      refine thn h4 fun _ s5 ⟨x,H5,I5,r5,y5,st5,fr5⟩=>?_
      have I5':=I5.pinned (statD fr5) (T.obj _ _ st5)
      refine thn (hg C fp s2 H2 _ s5 _ H5 x u _ I5' r5 (step x H5 y5)) fun _ s6 ⟨σ6,H6,I6,q6⟩=>?_
      refine thn (ht C fp s2 H2 _ s6 σ6 H6 _ I6 q6) fun b s7 ⟨H7,I7,q7⟩=>?_
      have again:∀ {s8:Shared} {H8:Hp},Inv X' (pD++zb8 fp s5.heap) σ6 H8 s8→Inv X' pD (capσ tg.length ci σ) H8 s8∧tn (i+1) s8.heap∧(∀b∈fp,H8 b=none)∧H8 D=none∧s8.heap.get? D=some { cls:=.type "list",data:=.seq us.toArray k }:=fun {s8 H8} I8=>by
        have e8:=I8.pin (D,_) (List.mem_append_right _ (List.mem_append_left _ (by simp [pD] <;> rfl)))
        refine ⟨?_,T.keep _ _ _ st5 fun b hb o e=>(I8.pin (b,o) (List.mem_append_right _ (List.mem_append_right _ (za8 hb e)))).1,fun b hb=>?_,e8.2.1,e8.1⟩
        · exact recap I8
        · obtain ⟨o,e,d⟩:=T.obj _ _ st5 b hb
          exact (I8.pin (b,o) (List.mem_append_right _ (List.mem_append_right _ (za8 hb e)))).2.1
      cases b with
      | false =>
        obtain ⟨m',hm,w7⟩:=hN _ _ q7
        obtain ⟨J,t7,f7,d7,e7⟩:=again I7
        exact ⟨m',hm,i+1,vs,us,k,H7,J.pins_of (fun p hp=>nomatch hp),t7,f7,d7,e7,rv3,z3,w7⟩
      | true =>
        simp only [if_true] at q7 ⊢
        refine thn (he C fp s2 H2 _ s7 σ6 H7 _ I7 q7) fun y s8 ⟨yv,H8,I8,r8,q8⟩=>?_
        obtain ⟨m',hm,w8⟩:=hN _ _ q8
        obtain ⟨J,t8,f8,d8,e8⟩:=again I8
        refine call_meets F.slot_list_append ⟨_,e8,rfl⟩ F.entry_list_append (F.args_list_append_2 _ _) (PySem.list_append D us.toArray k y (by rw [List.size_toArray,←rv3.length];exact z3)) ⟨e8,?_⟩
        have q:=PySem.IsL.update e8 (·.push y)
        have J0:Inv X' [] (capσ tg.length ci σ) H8 s8:=J.pins_of (fun p hp=>nomatch hp)
        refine ⟨m',hm,i+1,vs++[yv],us++[y],_,H8,J0.turned (it:=D) (t':=s8.toks) (fun b o hb hu=>(Heap.get?_update_other s8.heap _ (Ne.symm hb)).trans hu) d8 hDC (.inr (by show s2.heap.objs.size≤D;omega)) hDcell (fun p hp=>absurd (show p∈([]:List (Addr×Obj)) from hp) (by simp)),?_,f8,d8,by simpa using q,rv3.append (.cons r8 .nil),by simp;omega,w8⟩
        exact T.keep _ _ _ t8 fun b hb o hu=>(Heap.get?_update_other s8.heap _ (fun z=>hDfp (by rw [z];exact hb))).trans hu
  exact codeAny_compStart_list (loop _) (T.self X.A 0 _ _ _ (T.keep _ _ _ st2 (fun b hb o e=>old b o e)) (loop _))
theorem Gone.turned {pins:List (Addr×Obj)} {σ:St} {H:Hp} {s:Shared} {C:Addr} {h':Heap} (G:Gone X pins H s C) (I:Inv X pins σ H s) (hs:Heap.SameBut C s.heap h'):Inv X pins σ H { s with heap:=h' } :=
  I.turned (t':=s.toks) (fun b o hb e=>hs.extBut b o hb e) G.free G.ne (.inr G.ab) G.cells G.pins
theorem zbg {elt target iter:Expr} {ifs:List Expr} {scope:Scope} {pos:Pos} {tg cp:List Str} {ci:List Nat} {wi:TI} {g:TG} {ti:TT} {te:TE}
    (S:CSc X.N X.env.scope tg cp ci scope) (hcalm:X.calm=true) (hi:PI X target iter wi)
    (hg:∀cl C fp s H,PG (cxC X (tg++cp) scope cl C fp s H) target g) (ht:∀cl C fp s H,PIfs (cxC X (tg++cp) scope cl C fp s H) ifs ti) (he:∀cl C fp s H,PE (cxC X (tg++cp) scope cl C fp s H) elt te)
    (hs:∀x,foldedSetIterable iter X.env x=pure x:=by intro _;rfl):PE X (.ListComp elt [⟨target,iter,ifs,0⟩] scope pos) (zgl wi tg.length ci g ti te):=by
  intro pins s σ H Q I h
  obtain ⟨cl,hclos,h1,h2⟩:=zba (scope:=scope) (env:=X.env) fun x hx hf=>I.ok.has x.1 (S.free x hx hf)
  rw [eval_ListComp]
  refine wpAny_comprehension_free (use:=none) rfl hs hclos S.kind S.loc (thn (yeg S hcalm hi h1 h2 (hg cl) (ht cl) (he cl) I h) fun x s1 q1=>thn q1 fun it s2 q2=>thn q2 fun acc s3 q3=>thn q3 fun cenv s4 q4=>codeAny_mono q4 fun r s' q=>?_)
  obtain ⟨D,vs,H',e1,e2,I',f,G,q⟩:=q
  subst e1 e2
  obtain ⟨m,hn⟩:=G.ns
  exact ⟨m,hn,fun h' hsb=>⟨.ref D,_,G.turned I' hsb,rfl,q D f⟩⟩
theorem ycv {i:Nat} {y:Str} {py:Pos} {elt target iter:Expr} {ifs:List Expr} {scope:Scope} {pos spos:Pos} {tg cp:List Str} {ci:List Nat} {wi:TI} {g:TG} {ti:TT} {te:TE}
    (hN:X.N.Nodup) (hi':X.N[i]?=some y) (hy:Loc X.env.scope y)
    (S:CSc X.N X.env.scope tg cp ci scope) (hcalm:X.calm=true) (hi:PI X target iter wi)
    (hg:∀cl C fp s H,PG (cxC X (tg++cp) scope cl C fp s H) target g) (ht:∀cl C fp s H,PIfs (cxC X (tg++cp) scope cl C fp s H) ifs ti) (he:∀cl C fp s H,PE (cxC X (tg++cp) scope cl C fp s H) elt te)
    (hsw:swapsWith (.ListComp elt [⟨target,iter,ifs,0⟩] scope pos) (some (.Name y py)) spos.line X.env=pure true:=by rfl)
    (hs:∀x,foldedSetIterable iter X.env x=pure x:=by intro _;rfl) (hf:X.fn y=true∨X.env.scope.names.lookup y=some .local:=by first|exact .inl rfl|exact .inr rfl|assumption) :
    PS X (.Assign [.Name y py] (.ListComp elt [⟨target,iter,ifs,0⟩] scope pos) spos) (tAsg (zgl wi tg.length ci g ti te) (zau i)):=by
  intro pins s σ H D I h
  obtain ⟨cl,hclos,h1,h2⟩:=zba (scope:=scope) (env:=X.env) fun x hx hf=>I.ok.has x.1 (S.free x hx hf)
  rw [exec_Assign_Name_used _ _ _ _ hsw]
  refine wpAny_bind (wpAny_standAt (wpAny_bind ?_))
  show wpAny _ X.A (do let _ ←comprehension (.ListComp elt [⟨target,iter,ifs,0⟩] scope pos) scope X.env _ (newList []) false (eval iter X.env) (some (assign (.Name y py) X.env))) _ _ s
  refine wpAny_bind (wpAny_mono (wpAny_comprehension_free (use:=some (assign (.Name y py) X.env)) (Q:=fun _ s'=>SP X pins D .next s') rfl hs hclos S.kind S.loc
    (thn (yeg S hcalm hi h1 h2 (hg cl) (ht cl) (he cl) I h) fun x s1 q1=>thn q1 fun it s2 q2=>thn q2 fun acc s3 q3=>thn q3 fun cenv s4 q4=>codeAny_mono q4 fun r s' q=>?_)) (fun _ s' hq=>wpAny_pure (wpAny_pure hq)) fun _ _ e=>e)
  obtain ⟨D',vs,H',e1,e2,I',f,G,q⟩:=q
  subst e1 e2
  show wpAny _ X.A (assign (.Name y py) X.env (.ref D')) _ _ _
  obtain ⟨m,o,es,ep,ho,hd,hk⟩:=G.ns
  have pin:Inv X ((cenv.locals,o)::pins) σ (upd H' D' (.lst vs)) s':=I'.pins_of fun p hp=>by
    rcases List.mem_cons.mp hp with z|z
    · subst z
      exact ⟨ho,G.free,G.ne,G.nofs,fun v z=>by rw [hd] at z;cases z⟩
    · exact I'.pin p (List.mem_append_right _ z)
  refine wpAny_assign_Name (zaY (v:=V.ref D') pin hN hi' hy (show RelV (.ref D') (.ref D') from rfl) (fun s2 I2=>?_) hf)
  have I3:Inv X pins (σ.set i (some (.ref D'))) (upd H' D' (.lst vs)) s2:=I2.pins_of fun p hp=>I2.pin p (List.mem_append_right _ (List.mem_cons_of_mem _ hp))
  have e2:=I2.pin (cenv.locals,o) (List.mem_append_right _ List.mem_cons_self)
  have G2:Gone X pins (upd H' D' (.lst vs)) s2 cenv.locals:=⟨⟨m,o,es,ep,e2.1,hd,hk⟩,G.free,G.ne,G.ab,G.cells,G.pins,G.nofs⟩
  exact ⟨m,⟨o,es,ep,e2.1,hd,hk⟩,fun h' hsb=>⟨_,_,G2.turned I3 hsb,q D' f⟩⟩
end
end L2
end
section
-- text: ExtB
namespace L2
open PySem PySem.Spec PyProof.Rows
structure zcT (P:Program) (w:World) (A:Around) (a:Addr) (dep:List Addr) (ok:Nat→Heap→Prop) (val:Nat→Option Value):Prop where
  mem:a∈dep
  obj:∀k h,ok k h→∃o,h.get? a=some o∧(∀v,o.data≠.cell v)∧o.cls≠.type "zip"∧o.cls≠.type "enumerate"∧o.cls≠.type "tuple"
  keep:∀k h h',ok k h→(∀b∈dep,∀o,h.get? b=some o→h'.get? b=some o)→ok k h'
  item:∀k x (s:Shared) (Q:Value→Shared→Prop) (E:Value→Shared→Prop),ok k s.heap→val k=some x→(∀h',ok (k+1) h'→Heap.SameBut a s.heap h'→Q x { s with heap:=h' })→
    wpAny (model P w) A (Builtin.SmallTypes.nextOf (.ref a)) Q E s
  stop:∀k (s:Shared) (Q:Value→Shared→Prop) (E:Value→Shared→Prop),ok k s.heap→val k=none→
    (∀h' e,Heap.ExtBut a s.heap h'→(∃o,h'.get? e=some o∧o.cls = .type "StopIteration")→E (.ref e) { s with heap:=h' })→wpAny (model P w) A (Builtin.SmallTypes.nextOf (.ref a)) Q E s
section
variable {P:Program} {w:World} {A:Around}
theorem ygH {a l:Addr} {xs:Array Value} (hh:A.handled=none) (ne:l≠a):zcT P w A a [a,l] (fun k h=>h.IsListIter a l k∧h.IsList l xs) (fun k=>xs[k]?) where
  mem:=List.mem_cons_self
  obj:=fun k h z=>by
    obtain ⟨⟨o,e,c,d⟩,_⟩:=z
    exact ⟨o,e,fun v q=>(by rw [d] at q;cases q),(by rw [c];decide),(by rw [c];decide),(by rw [c];decide)⟩
  keep:=fun k h h' z q=>⟨z.1.at fun o e=>q a (by simp) o e,z.2.at fun o e=>q l (by simp) o e⟩
  item:=fun k x s Q E z e q=>wpAny_nextOf_list_item z.1 z.2 e fun h' h1 h2=>q h' ⟨h1,z.2.extBut h2.extBut ne⟩ h2
  stop:=fun k s Q E z e q=>wpAny_nextOf_list_end hh z.1 z.2 e q
theorem zcM {h h':Heap} {a l:Addr} {k:Nat} (x:h.IsTupleIter a l k) (e:∀o,h.get? a=some o→h'.get? a=some o):h'.IsTupleIter a l k:=let ⟨o,ho,r⟩:=x;⟨o,e _ ho,r⟩
theorem ygb {h h':Heap} {a:Addr} {xs:Array Value} (x:h.IsTuple a xs) (e:∀o,h.get? a=some o→h'.get? a=some o):h'.IsTuple a xs:=let ⟨o,ho,r⟩:=x;⟨o,e _ ho,r⟩
theorem zgU {a l:Addr} {xs:Array Value} (hh:A.handled=none) (ne:l≠a):zcT P w A a [a,l] (fun k h=>h.IsTupleIter a l k∧h.IsTuple l xs) (fun k=>xs[k]?) where
  mem:=List.mem_cons_self
  obj:=fun k h z=>by
    obtain ⟨⟨o,e,c,d⟩,_⟩:=z
    exact ⟨o,e,fun v q=>(by rw [d] at q;cases q),(by rw [c];decide),(by rw [c];decide),(by rw [c];decide)⟩
  keep:=fun k h h' z q=>⟨zcM z.1 fun o e=>q a (by simp) o e,ygb z.2 fun o e=>q l (by simp) o e⟩
  item:=fun k x s Q E z e q=>by
    obtain ⟨o,ho,hc,hd⟩:=id z.1
    obtain ⟨ol,hol,_,nl,hdl⟩:=id z.2
    unfold Builtin.SmallTypes.nextOf
    refine wpAny_bind (wpAny_callSpecial?_slot (name:=Str.ofString "__next__") z.1.typeIs F.slot_tuple_iterator_next (wpAny_call_entry F.slot_tuple_iterator_next z.1.typeIs F.entry_tuple_iterator_next ?_ (F.args_tuple_iterator_next_1 _)))
    show wpAny _ _ (field (.ref a) 0 >>= _) _ _ s;refine wpAny_bind (wpAny_field ho hd (x:=.ref l) rfl ?_)
    show wpAny _ _ (if (Value.ref l==Value.none)=true then _ else _) _ _ s;rw [if_neg (show ¬ ((Value.ref l==Value.none)=true) from Bool.false_ne_true)]
    show wpAny _ _ (field (.ref a) 1 >>= _) _ _ s;refine wpAny_bind (wpAny_field ho hd (x:=.int k 0) rfl ?_)
    show wpAny _ _ (seqItems? (.ref l) >>= _) _ _ s;refine wpAny_bind (wpAny_seqItems hol hdl ?_)
    simp only [Int.toNat_natCast,e]
    refine wpAny_bind (wpAny_setField ho hd (by simp) (wpAny_pure ⟨x,rfl,wpAny_pure (q _ ⟨?_,z.2.extBut (Heap.SameBut.update ..).extBut ne⟩ (Heap.SameBut.update ..))⟩))
    exact ⟨_,Heap.get?_update_self _ ho (Obj.isFreed_of_fields (Obj.data_mapFields hd _)),(Obj.cls_mapFields ..).trans hc,by rw [Obj.data_mapFields hd];simp [rawInt]⟩
  stop:=fun k s Q E z e q=>by
    obtain ⟨o,ho,hc,hd⟩:=id z.1
    obtain ⟨ol,hol,_,nl,hdl⟩:=id z.2
    unfold Builtin.SmallTypes.nextOf
    refine wpAny_bind (wpAny_callSpecial?_slot (name:=Str.ofString "__next__") z.1.typeIs F.slot_tuple_iterator_next (wpAny_call_entry F.slot_tuple_iterator_next z.1.typeIs F.entry_tuple_iterator_next ?_ (F.args_tuple_iterator_next_1 _)))
    show wpAny _ _ (field (.ref a) 0 >>= _) _ _ s;refine wpAny_bind (wpAny_field ho hd (x:=.ref l) rfl ?_)
    show wpAny _ _ (if (Value.ref l==Value.none)=true then _ else _) _ _ s;rw [if_neg (show ¬ ((Value.ref l==Value.none)=true) from Bool.false_ne_true)]
    show wpAny _ _ (field (.ref a) 1 >>= _) _ _ s;refine wpAny_bind (wpAny_field ho hd (x:=.int k 0) rfl ?_)
    show wpAny _ _ (seqItems? (.ref l) >>= _) _ _ s;refine wpAny_bind (wpAny_seqItems hol hdl ?_)
    simp only [Int.toNat_natCast,e]
    refine wpAny_bind (wpAny_rule (wpAny_bind (wpAny_setField ho hd (by simp) ?_)))
    show wpAny _ _ (newExc (.type "StopIteration") [] >>= _) _ _ _;refine wpAny_bind ?_
    simp only [newExc,newTuple]
    refine wpAny_bind (wpAny_newObj_type ?_ (by size_fits))
    refine wpAny_bind (m:=firstArgMember _ _) (wpAny_of_eq (a:=Value.none) (by first|rfl|(simp only [firstArgMember];rfl)) (wpAny_newObj_type ?_ (by size_fits)))
    simp only [raiseNew]
    refine wpAny_bind (wpAny_handled ?_)
    first|rw [show A.in1.handled=none from hh]|rw [hh]
    exact wpAny_bind (wpAny_pure (wpAny_throw (q _ _ (((Heap.SameBut.update ..).extBut.push _).push _) ⟨_,Heap.get?_push_size _ rfl,rfl⟩)))
end
structure ZAp (z TI TO:Addr) (d1 d2:List Addr) (i1 i2:Addr):Prop where
  a1:TI≠z
  a2:TO≠z
  a3:TI≠TO
  b1:z∉d1
  b2:z∉d2
  b3:TO∉d1
  b4:TO∉d2
  b5:TI≠i1
  b6:TI≠i2
  c1:i1∉d2
  c2:i2∉d1
section
variable {P:Program} {w:World} {A:Around} {s:Shared} {z TI TO i1 i2:Addr} {d1 d2:List Addr} {ok1 ok2:Nat→Heap→Prop} {v1 v2:Nat→Option Value}
theorem zcT.ext (S:zcT P w A i1 d1 ok1 v1) {k:Nat} {h h':Heap} {b:Addr} (o:ok1 k h) (e:Heap.ExtBut b h h') (n:b∉d1):ok1 k h':=S.keep k h h' o fun c hc ob eb=>e c ob (fun q=>n (q ▸ hc)) eb
theorem yfr {k:Nat} {x y p q:Value} {Q:Value→Shared→Prop} {E:Value→Shared→Prop} (D:ZAp z TI TO d1 d2 i1 i2) (S1:zcT P w A i1 d1 ok1 v1) (S2:zcT P w A i2 d2 ok2 v2)
    (hz:IsZip s.heap z TI TO .none) (hI:IsPair s.heap TI (.ref i1) (.ref i2)) (hO:IsPair s.heap TO p q) (o1:ok1 k s.heap) (o2:ok2 k s.heap) (e1:v1 k=some x) (e2:v2 k=some y)
    (hQ:∀g,IsZip g z TI TO (rawInt s.heap.objs.size)→IsPair g TO x y→ok1 (k+1) g→ok2 (k+1) g→IsPair g s.heap.objs.size x y→(∀c o,c≠z→c≠TO→c≠i1→c≠i2→s.heap.get? c=some o→g.get? c=some o)→Q (.ref s.heap.objs.size) { s with heap:=g }) :
    wpAny (model P w) A (Builtin.«zip.__next__» ⟨[.ref z],[]⟩) (fun fin s'=>∃v,fin = .done (.ret v)∧Q v s') E s:=by
  have n1z:i1≠z:=fun e=>D.b1 (e ▸ S1.mem)
  have n2z:i2≠z:=fun e=>D.b2 (e ▸ S2.mem)
  have n1O:i1≠TO:=fun e=>D.b3 (e ▸ S1.mem)
  have n2O:i2≠TO:=fun e=>D.b4 (e ▸ S2.mem)
  show wpAny _ _ (field (.ref z) 2 >>= _) _ E s;refine wpAny_bind (wpAny_field hz rfl (x:=.bool false) rfl ?_)
  show wpAny _ _ (field (.ref z) 3 >>= _) _ E s;refine wpAny_bind (wpAny_field hz rfl (x:=.ref TI) rfl (wpAny_bind (wpAny_seqItems hI rfl ?_)))
  show wpAny _ _ (Builtin.SmallTypes.ownedTupleIsFree (.ref z) >>= _) _ E s;refine wpAny_bind ?_
  unfold Builtin.SmallTypes.ownedTupleIsFree
  refine wpAny_bind (wpAny_field hz rfl (x:=.none) rfl (wpAny_pure ?_))
  simp only [if_true]
  refine wpAny_bind (wpAny_rule (wpAny_bind (wpAny_field hz rfl (x:=.ref TO) rfl (wpAny_bind (wpAny_setField_rec hz (by simp) fun g1 hz1 t1=>?_)))))
  replace hz1:IsZip g1 z TI TO .ellipsis:=hz1
  refine wpAny_bind ?_
  simp only [List.zipIdx_cons,List.zipIdx_nil,List.forIn_cons,List.forIn_nil]
  refine wpAny_bind (wpAny_bind (wpAny_onRaise ?_));show wpAny _ _ (Builtin.SmallTypes.nextOf (.ref i1) >>= _) _ _ _;refine (wpAny_bind (S1.item k x _ _ _ (S1.ext o1 t1.extBut D.b1) e1 fun g2 o12 t2=>wpAny_pure ?_))
  have hO2:IsPair g2 TO p q:=t2.extBut _ _ (Ne.symm n1O) (t1.extBut _ _ D.a2 hO)
  refine wpAny_bind (wpAny_seqItems hO2 rfl (wpAny_bind (wpAny_updateSeq_pair hO2 fun g3 hO3 t3=>?_)))
  replace hO3:IsPair g3 TO x q:=hO3
  refine wpAny_bind (wpAny_letGo (wpAny_pure ?_))
  have o23:ok2 k g3:=S2.ext (S2.ext (S2.ext o2 t1.extBut D.b2) t2.extBut D.c1) t3.extBut D.b4
  refine wpAny_bind (wpAny_bind (wpAny_onRaise ?_));show wpAny _ _ (Builtin.SmallTypes.nextOf (.ref i2) >>= _) _ _ _;refine (wpAny_bind (S2.item k y _ _ _ o23 e2 fun g4 o24 t4=>wpAny_pure ?_))
  have hO4:IsPair g4 TO x q:=t4.extBut _ _ (Ne.symm n2O) hO3
  refine wpAny_bind (wpAny_seqItems hO4 rfl (wpAny_bind (wpAny_updateSeq_pair hO4 fun g5 hO5 t5=>?_)))
  replace hO5:IsPair g5 TO x y:=hO5
  refine wpAny_bind (wpAny_letGo (wpAny_pure (wpAny_pure ?_)))
  refine wpAny_bind (wpAny_seqItems hO5 rfl (wpAny_bind (wpAny_newTuple ?_)))
  have sz:g5.objs.size=s.heap.objs.size:=by rw [t5.1,t4.1,t3.1,t2.1,t1.1]
  have hz5:IsZip g5 z TI TO .ellipsis:=t5.extBut _ _ (Ne.symm D.a2) (t4.extBut _ _ (Ne.symm n2z) (t3.extBut _ _ (Ne.symm D.a2) (t2.extBut _ _ (Ne.symm n1z) hz1)))
  have k5:∀c o,c≠z→c≠TO→c≠i1→c≠i2→s.heap.get? c=some o→g5.get? c=some o:=fun c o m1 m2 m3 m4 e=>t5.extBut _ _ m2 (t4.extBut _ _ m4 (t3.extBut _ _ m2 (t2.extBut _ _ m3 (t1.extBut _ _ m1 e))))
  have o15:ok1 (k+1) g5:=S1.ext (S1.ext (S1.ext o12 t3.extBut D.b3) t4.extBut D.c2) t5.extBut D.b3
  have o25:ok2 (k+1) g5:=S2.ext o24 t5.extBut D.b4
  have zlt:z<g5.objs.size:=Heap.lt_size hz5
  show wpAny _ _ (Builtin.SmallTypes.ownedTupleHandOut (.ref z) (.ref g5.objs.size) >>= _) _ E _;refine wpAny_bind ?_
  unfold Builtin.SmallTypes.ownedTupleHandOut
  have hz6:IsZip (g5.push { cls:=.type "tuple",data:=.seq #[x,y] }) z TI TO .ellipsis:=Heap.get?_push_of_some _ hz5
  refine wpAny_bind (wpAny_setField_rec hz6 (by simp) fun g7 hz7 t7=>?_)
  replace hz7:IsZip g7 z TI TO (rawInt g5.objs.size):=hz7
  refine wpAny_setField_rec hz7 (by simp) fun g8 hz8 t8=>?_
  replace hz8:IsZip g8 z TI TO (rawInt g5.objs.size):=hz8
  have up:∀c o,c≠z→g5.get? c=some o→g8.get? c=some o:=fun c o m e=>t8.extBut _ _ m (t7.extBut _ _ m (Heap.get?_push_of_some _ e))
  have hT8:IsPair g8 g5.objs.size x y:=t8.extBut _ _ (Nat.ne_of_gt zlt) (t7.extBut _ _ (Nat.ne_of_gt zlt) (Heap.get?_push_size _ rfl))
  rw [sz] at hz8 hT8
  refine wpAny_pure ⟨_,rfl,?_⟩
  show Q (.ref g5.objs.size) _
  rw [sz]
  exact hQ g8 hz8 (up _ _ D.a2 hO5) (S1.keep _ _ _ o15 fun b hb o e=>up b o (fun q=>D.b1 (q ▸ hb)) e) (S2.keep _ _ _ o25 fun b hb o e=>up b o (fun q=>D.b2 (q ▸ hb)) e) hT8 fun c o m1 m2 m3 m4 e=>up c o m1 (k5 c o m1 m2 m3 m4 e)
theorem yfE {k:Nat} {p q:Value} {Q:Fin→Shared→Prop} {E:Value→Shared→Prop} (D:ZAp z TI TO d1 d2 i1 i2) (S1:zcT P w A i1 d1 ok1 v1) (S2:zcT P w A i2 d2 ok2 v2)
    (hz:IsZip s.heap z TI TO .none) (hI:IsPair s.heap TI (.ref i1) (.ref i2)) (hO:IsPair s.heap TO p q) (o1:ok1 k s.heap) (o2:ok2 k s.heap) (he:v1 k=none∨v2 k=none)
    (hE:∀g e,(∀c o,c≠z→c≠TO→c≠i1→c≠i2→s.heap.get? c=some o→g.get? c=some o)→(∃o,g.get? e=some o∧o.cls = .type "StopIteration")→E (.ref e) { s with heap:=g }) :
    wpAny (model P w) A (Builtin.«zip.__next__» ⟨[.ref z],[]⟩) Q E s:=by
  have n1z:i1≠z:=fun e=>D.b1 (e ▸ S1.mem)
  have n2z:i2≠z:=fun e=>D.b2 (e ▸ S2.mem)
  have n1O:i1≠TO:=fun e=>D.b3 (e ▸ S1.mem)
  show wpAny _ _ (field (.ref z) 2 >>= _) _ E s;refine wpAny_bind (wpAny_field hz rfl (x:=.bool false) rfl ?_)
  show wpAny _ _ (field (.ref z) 3 >>= _) _ E s;refine wpAny_bind (wpAny_field hz rfl (x:=.ref TI) rfl (wpAny_bind (wpAny_seqItems hI rfl ?_)))
  show wpAny _ _ (Builtin.SmallTypes.ownedTupleIsFree (.ref z) >>= _) _ E s;refine wpAny_bind ?_
  unfold Builtin.SmallTypes.ownedTupleIsFree
  refine wpAny_bind (wpAny_field hz rfl (x:=.none) rfl (wpAny_pure ?_))
  simp only [if_true]
  refine wpAny_bind (wpAny_rule (wpAny_bind (wpAny_field hz rfl (x:=.ref TO) rfl (wpAny_bind (wpAny_setField_rec hz (by simp) fun g1 hz1 t1=>?_)))))
  replace hz1:IsZip g1 z TI TO .ellipsis:=hz1
  refine wpAny_bind ?_
  simp only [List.zipIdx_cons,List.zipIdx_nil,List.forIn_cons,List.forIn_nil]
  have o11:ok1 k g1:=S1.ext o1 t1.extBut D.b1
  cases e1:v1 k with
  | none =>
    refine wpAny_bind (wpAny_bind (wpAny_onRaise ?_));show wpAny _ _ (Builtin.SmallTypes.nextOf (.ref i1) >>= _) _ _ _;refine (wpAny_bind (S1.stop k _ _ _ o11 e1 fun g2 e t2 ⟨oe,he',ce⟩=>?_))
    have hz2:IsZip g2 z TI TO .ellipsis:=t2 _ _ (Ne.symm n1z) hz1
    have ez:e≠z:=fun q=>by subst q;rw [hz2] at he';cases he';simp at ce
    exact wpAny_setField_rec hz2 (by simp) fun g3 _ t3=>hE g3 e (fun c o m1 _ m3 _ x=>t3.extBut _ _ m1 (t2 _ _ m3 (t1.extBut _ _ m1 x))) ⟨oe,t3.extBut _ _ ez he',ce⟩
  | some x =>
    have e2:v2 k=none:=by rcases he with h|h;rw [e1] at h;cases h;exact h
    refine wpAny_bind (wpAny_bind (wpAny_onRaise ?_));show wpAny _ _ (Builtin.SmallTypes.nextOf (.ref i1) >>= _) _ _ _;refine (wpAny_bind (S1.item k x _ _ _ o11 e1 fun g2 o12 t2=>wpAny_pure ?_))
    have hO2:IsPair g2 TO p q:=t2.extBut _ _ (Ne.symm n1O) (t1.extBut _ _ D.a2 hO)
    refine wpAny_bind (wpAny_seqItems hO2 rfl (wpAny_bind (wpAny_updateSeq_pair hO2 fun g3 hO3 t3=>?_)))
    refine wpAny_bind (wpAny_letGo (wpAny_pure ?_))
    have o23:ok2 k g3:=S2.ext (S2.ext (S2.ext o2 t1.extBut D.b2) t2.extBut D.c1) t3.extBut D.b4
    refine wpAny_bind (wpAny_bind (wpAny_onRaise ?_));show wpAny _ _ (Builtin.SmallTypes.nextOf (.ref i2) >>= _) _ _ _;refine (wpAny_bind (S2.stop k _ _ _ o23 e2 fun g4 e t4 ⟨oe,he',ce⟩=>?_))
    have hz4:IsZip g4 z TI TO .ellipsis:=t4 _ _ (Ne.symm n2z) (t3.extBut _ _ (Ne.symm D.a2) (t2.extBut _ _ (Ne.symm n1z) hz1))
    have ez:e≠z:=fun q=>by subst q;rw [hz4] at he';cases he';simp at ce
    exact wpAny_setField_rec hz4 (by simp) fun g5 _ t5=>hE g5 e (fun c o m1 m2 m3 m4 x=>t5.extBut _ _ m1 (t4 _ _ m4 (t3.extBut _ _ m2 (t2.extBut _ _ m3 (t1.extBut _ _ m1 x))))) ⟨oe,t5.extBut _ _ ez he',ce⟩
end
end L2
end
section
-- text: ExtC
namespace L2
open PySem PySem.Spec PyProof.Rows
def SqB (K:PySem.W.Frag):Bool→Hp→Addr→List V→Prop
  | true=>fun H a xs=>SqT K H a xs
  | false=>fun H a xs=>SqL K H a xs
def zbo:Bool→Heap→Addr→Array Value→Prop
  | true=>fun h a xs=>h.IsTuple a xs
  | false=>fun h a xs=>h.IsList a xs
def ycY:Bool→Heap→Addr→Addr→Nat→Prop
  | true=>fun h a l k=>h.IsTupleIter a l k
  | false=>fun h a l k=>h.IsListIter a l k
def yaq (b:Bool) (l:Addr):Obj:={ cls:=.type (if b then "tuple_iterator" else "list_iterator"),data:=.fields #[.ref l,.int 0 0] }
theorem ycz (b:Bool) (h:Heap) (l:Addr) (a:Addr) (e:h.get? a=some (yaq b l)):ycY b h a l 0:=by cases b <;> exact ⟨_,e,rfl,rfl⟩
theorem ybE {b:Bool} {h h':Heap} {a l:Addr} {k:Nat} (x:ycY b h a l k) (e:∀o,h.get? a=some o→h'.get? a=some o):ycY b h' a l k:=by
  cases b
  · exact Heap.IsListIter.at x e
  · exact zcM x e
theorem zeN {b:Bool} {h h':Heap} {a:Addr} {xs:Array Value} (x:zbo b h a xs) (e:∀o,h.get? a=some o→h'.get? a=some o):zbo b h' a xs:=by
  cases b
  · exact Heap.IsList.at x e
  · exact ygb x e
theorem subB {P:Program} {w:World} {A:Around} (b:Bool) {a l:Addr} {xs:Array Value} (hh:A.handled=none) (ne:l≠a):zcT P w A a [a,l] (fun k h=>ycY b h a l k∧zbo b h l xs) (fun k=>xs[k]?):=by
  cases b
  · exact ygH hh ne
  · exact zgU hh ne
theorem ya2 {b:Bool} {h:Heap} {a l:Addr} {k:Nat} (x:ycY b h a l k):∃o,h.get? a=some o∧(∀v,o.data≠.cell v)∧(o.cls = .type "tuple_iterator"∨o.cls = .type "list_iterator"):=by
  cases b <;> obtain ⟨o,e,c,d⟩:=x
  · exact ⟨o,e,fun v q=>(by rw [d] at q;cases q),.inr c⟩
  · exact ⟨o,e,fun v q=>(by rw [d] at q;cases q),.inl c⟩
theorem zcK {b:Bool} {h:Heap} {a:Addr} {xs:Array Value} (x:zbo b h a xs):∃o,h.get? a=some o∧(o.cls = .type "tuple"∨o.cls = .type "list"):=by
  cases b <;> obtain ⟨o,e,c,d⟩:=x
  · exact ⟨o,e,.inr c⟩
  · exact ⟨o,e,.inl c⟩
theorem zcg {P:Program} {w:World} {A:Around} {E:Value→Shared→Prop} {s:Shared} {b:Bool} {t:Addr} {items:Array Value} {Q:Value→Shared→Prop} (ht:zbo b s.heap t items)
    (hQ:Q (.ref s.heap.objs.size) { s with heap:=s.heap.push (yaq b t) }):wpAny (model P w) A (pyIter (.ref t)) Q E s:=by
  cases b
  · exact wpAny_pyIter_list ht hQ
  · exact wpAny_pyIter_tuple ht hQ
section
variable {X:Cx} {pins:List (Addr×Obj)} {σ:St} {H:Hp} {s:Shared}
theorem Inv.seqB {b:Bool} {a:Addr} {xs:List V} (I:Inv X pins σ H s) (h:SqB X.K b H a xs):∃its:List Value,Vals xs its∧zbo b s.heap a its.toArray∧xs.length≤sizeLine:=by
  cases b
  · obtain ⟨its,r,p,z⟩:=I.list h;exact ⟨its,r,p.isList,z⟩
  · obtain ⟨its,r,p,z⟩:=I.tuple h;exact ⟨its,r,p,z⟩
theorem Inv.seqB_inj {b:Bool} {a:Addr} {xs ys:List V} (I:Inv X pins σ H s) (h:SqB X.K b H a xs) (h':SqB X.K b H a ys):xs=ys:=by
  cases b
  · exact I.list_inj h h'
  · exact I.tuple_inj h h'
theorem Inv.turnedT {fp:List Addr} {h':Heap} {t':Nat} {T:Addr} {xs:List V} {its:Array Value} (I:Inv X pins σ H s) (hf:∀b∈fp,FpOk X pins H b) (k:∀b o,b∉fp→s.heap.get? b=some o→h'.get? b=some o)
    (hp:s.heap.objs.size≤T) (z:xs.length≤sizeLine) (r:Vals xs its.toList) (new:h'.IsTuple T its):Inv X pins σ (upd H T (.tup xs)) { s with heap:=h',toks:=t' }:=by
  have fT:H T=none:=I.hok.fresh hp
  have nT:∀b o,s.heap.get? b=some o→b≠T:=fun b o e q=>by
    have l1:s.heap.objs.size≥Nat.succ b:=Heap.lt_size e
    have l2:@Eq Nat b T:=q
    omega
  have nfp:∀b u,H b=some u→b∉fp:=fun b u e q=>by rw [(hf b q).1] at e;cases e
  refine I.step (g':=s.gens) (d':=s.drawn) (ch:=fp) (fun b hb=>⟨(hf b hb).2.2.2.1,(hf b hb).2.1,(hf b hb).2.2.2.2.1,(hf b hb).2.2.2.2.2⟩) (fun b o _ _ hc e _=>k b o hc e) (fun b o _ _ hc e _=>⟨o.slots,k b o hc e⟩)
    (fun b o _ e n=>by rw [zag (nT b o e)];exact n) (fun b o hc e=>⟨o,k b o hc e⟩) (fun b ys e=>by rw [zag (yae e fT)];exact e) (fun b o u e=>by rw [zag (yae e fT)];exact e)
    (fun b ps e=>⟨#[],by rw [zag (yae e fT),e];simp⟩) (fun m hm=>?_) (fun b u e=>?_) I.bare
  · obtain ⟨o,es,ep,ho,q⟩:=hm
    exact ⟨o,es,ep,k _ o (fun hb=>(hf _ hb).2.1 rfl) ho,q⟩
  · by_cases hb:b=T
    · subst hb
      rw [zab] at e;cases e
      have q:IsTup h' b its:=new
      exact ⟨z,its.toList,r,by simpa using q⟩
    · rw [zag hb] at e
      refine (I.hok b u e).stay (fun c v hc q=>k c v ?_ q) (fun c q=>?_) fun c ys q=>?_
      · rcases hc with hc|hc
        · rw [hc];exact nfp b u e
        · exact nfp c _ hc
      · rw [zag (yae q fT)];exact q
      · rw [zag (yae q fT)];exact q
theorem Inv.turnedL {fp:List Addr} {h':Heap} {t':Nat} (I:Inv X pins σ H s) (hf:∀b∈fp,FpOk X pins H b) (k:∀b o,b∉fp→s.heap.get? b=some o→h'.get? b=some o):Inv X pins σ H { s with heap:=h',toks:=t' }:=by
  have nfp:∀b u,H b=some u→b∉fp:=fun b u e q=>by rw [(hf b q).1] at e;cases e
  refine I.step (g':=s.gens) (d':=s.drawn) (ch:=fp) (fun b hb=>⟨(hf b hb).2.2.2.1,(hf b hb).2.1,(hf b hb).2.2.2.2.1,(hf b hb).2.2.2.2.2⟩) (fun b o _ _ hc e _=>k b o hc e) (fun b o _ _ hc e _=>⟨o.slots,k b o hc e⟩)
    (fun b o _ e n=>n) (fun b o hc e=>⟨o,k b o hc e⟩) (fun b ys e=>e) (fun b o u e=>e) (fun b ps e=>⟨#[],by rw [e];simp⟩) (fun m hm=>?_) (fun b u e=>?_) I.bare
  · obtain ⟨o,es,ep,ho,q⟩:=hm
    exact ⟨o,es,ep,k _ o (fun hb=>(hf _ hb).2.1 rfl) ho,q⟩
  · refine (I.hok b u e).stay (fun c v hc q=>k c v ?_ q) (fun c q=>q) fun c ys q=>q
    rcases hc with hc|hc
    · rw [hc];exact nfp b u e
    · exact nfp c _ hc
end
def Itz (K:PySem.W.Frag) (b1 b2:Bool) (l1 l2:Addr):It :=
  ⟨fun i H=>∃xs ys x y,SqB K b1 H l1 xs∧SqB K b2 H l2 ys∧xs[i]?=some x∧ys[i]?=some y,
   fun i H v H'=>∃T x y,v = .ref T∧H T=none∧H'=upd H T (.tup [x,y])∧(∀xs,SqB K b1 H l1 xs→xs[i]?=some x)∧(∀ys,SqB K b2 H l2 ys→ys[i]?=some y),
   fun i H=>∃xs ys,SqB K b1 H l1 xs∧SqB K b2 H l2 ys∧(xs.length≤i∨ys.length≤i)⟩
structure ZSt (b1 b2:Bool) (z TI TO i1 i2 l1 l2:Addr) (k:Nat) (h:Heap):Prop where
  zip:IsZip h z TI TO .none
  ti:IsPair h TI (.ref i1) (.ref i2)
  to:∃a b,IsPair h TO a b
  it1:ycY b1 h i1 l1 k
  it2:ycY b2 h i2 l2 k
theorem za3 {h:Heap} {a b:Addr} {o u:Obj} {x y:String} (e:h.get? a=some o) (e':h.get? b=some u) (ca:o.cls = .type x) (cb:u.cls = .type y) (n:x≠y:=by decide):a≠b:=fun q=>by
  subst q;rw [e] at e';cases e';rw [ca] at cb;injection cb with cb;exact n cb
theorem Inv.sq_ne {X:Cx} {pins:List (Addr×Obj)} {σ:St} {H:Hp} {s:Shared} {b:Bool} {l c:Addr} {xs:List V} (I:Inv X pins σ H s) (h:SqB X.K b H l xs) (f:FpOk X pins H c):l≠c:=by
  have key:(∃u,H l=some u)∨∃o,X.K.lookup l=some o:=by
    cases b
    · rcases h with (h | ⟨o,h⟩) | ⟨o,_,_,h,_⟩
      · exact .inl ⟨_,h⟩
      · exact .inl ⟨_,h⟩
      · exact .inr ⟨o,h⟩
    · rcases h with (h | ⟨o,h⟩) | ⟨o,_,_,h,_⟩
      · exact .inl ⟨_,h⟩
      · exact .inl ⟨_,h⟩
      · exact .inr ⟨o,h⟩
  intro q
  subst q
  rcases key with ⟨u,e⟩ | ⟨o,e⟩
  · rw [f.1] at e;cases e
  · have eb:=I.ok.mod.kin l o e
    rcases f.2.2.2.1 with z|z
    · exact I.ok.noex l o eb z
    · have l1:X.base.objs.size≥Nat.succ l:=Heap.lt_size eb
      have l2:X.base.objs.size≤X.s₀.heap.objs.size:=I.ok.bsz
      have l3:X.s₀.heap.objs.size≤l:=z
      omega
theorem zfI {P:Program} {w:World} {K:PySem.W.Frag} {elts:List Expr} {kk:Nat} {tpos:Pos} (b1 b2:Bool) (z TI TO i1 i2 l1 l2:Addr) (nIO:TI≠TO) (n12:i1≠i2) :
    Turn P w K (.Tuple elts kk tpos) (Itz K b1 b2 l1 l2) [z,TI,TO,i1,i2] z (ZSt b1 b2 z TI TO i1 i2 l1 l2) where
  mem:=List.mem_cons_self
  obj:=fun k h S b hb=>by
    obtain ⟨p,q,hO⟩:=S.to
    obtain ⟨o1,e1,d1,_⟩:=ya2 S.it1
    obtain ⟨o2,e2,d2,_⟩:=ya2 S.it2
    simp only [List.mem_cons,List.not_mem_nil,or_false] at hb
    rcases hb with rfl|rfl|rfl|rfl|rfl
    · exact ⟨_,S.zip,fun v q=>by cases q⟩
    · exact ⟨_,S.ti,fun v q=>by cases q⟩
    · exact ⟨_,hO,fun v q=>by cases q⟩
    · exact ⟨o1,e1,d1⟩
    · exact ⟨o2,e2,d2⟩
  keep:=fun k h h' S q=>by
    obtain ⟨p,r,hO⟩:=S.to
    exact ⟨q z (by simp) _ S.zip,q TI (by simp) _ S.ti,⟨p,r,q TO (by simp) _ hO⟩,ybE S.it1 fun o e=>q i1 (by simp) o e,ybE S.it2 fun o e=>q i2 (by simp) o e⟩
  item:=by
    intro X hP hw hK hc i pins s σ H E I hf S hg
    subst hP hw hK
    obtain ⟨xs,ys,x,y,h1,h2,ex,ey⟩:=hg
    obtain ⟨us,r1,p1,z1⟩:=I.seqB h1
    obtain ⟨vs,r2,p2,z2⟩:=I.seqB h2
    obtain ⟨u,eu,ru⟩:=r1.get ex
    obtain ⟨v,ev,rv⟩:=r2.get ey
    obtain ⟨p,q,hO⟩:=S.to
    obtain ⟨o1,e1,_,c1⟩:=ya2 S.it1
    obtain ⟨o2,e2,_,c2⟩:=ya2 S.it2
    obtain ⟨q1,f1,g1⟩:=zcK p1
    obtain ⟨q2,f2,g2⟩:=zcK p2
    have fz:∀b∈[z,TI,TO,i1,i2],H b=none:=fun b hb=>(hf b hb).1
    have hh:X.A.handled=none:=I.ok.hd hc
    have nl1:∀b∈[z,TI,TO,i1,i2],l1≠b:=fun b hb=>I.sq_ne h1 (hf b hb)
    have nl2:∀b∈[z,TI,TO,i1,i2],l2≠b:=fun b hb=>I.sq_ne h2 (hf b hb)
    have i1z:i1≠z:=by rcases c1 with c|c <;> exact za3 e1 S.zip c rfl
    have i2z:i2≠z:=by rcases c2 with c|c <;> exact za3 e2 S.zip c rfl
    have i1I:i1≠TI:=by rcases c1 with c|c <;> exact za3 e1 S.ti c rfl
    have i2I:i2≠TI:=by rcases c2 with c|c <;> exact za3 e2 S.ti c rfl
    have i1O:i1≠TO:=by rcases c1 with c|c <;> exact za3 e1 hO c rfl
    have i2O:i2≠TO:=by rcases c2 with c|c <;> exact za3 e2 hO c rfl
    have Iz:TI≠z:=za3 S.ti S.zip rfl rfl
    have Oz:TO≠z:=za3 hO S.zip rfl rfl
    have D:ZAp z TI TO [i1,l1] [i2,l2] i1 i2:=by
      refine ⟨Iz,Oz,nIO,?_,?_,?_,?_,Ne.symm i1I,Ne.symm i2I,?_,?_⟩
      · simp only [List.mem_cons,List.not_mem_nil,or_false,not_or];exact ⟨Ne.symm i1z,Ne.symm (nl1 z (by simp))⟩
      · simp only [List.mem_cons,List.not_mem_nil,or_false,not_or];exact ⟨Ne.symm i2z,Ne.symm (nl2 z (by simp))⟩
      · simp only [List.mem_cons,List.not_mem_nil,or_false,not_or];exact ⟨Ne.symm i1O,Ne.symm (nl1 TO (by simp))⟩
      · simp only [List.mem_cons,List.not_mem_nil,or_false,not_or];exact ⟨Ne.symm i2O,Ne.symm (nl2 TO (by simp))⟩
      · simp only [List.mem_cons,List.not_mem_nil,or_false,not_or];exact ⟨n12,Ne.symm (nl2 i1 (by simp))⟩
      · simp only [List.mem_cons,List.not_mem_nil,or_false,not_or];exact ⟨Ne.symm n12,Ne.symm (nl1 i2 (by simp))⟩
    have hT:s.TypeIs (.ref z) "zip":=⟨_,S.zip,rfl⟩
    unfold pyNext
    refine wpAny_bind (wpAny_attempt (wpAny_callSpecial?_slot (name:=Str.ofString "__next__") hT F.slot_zip_next (wpAny_call_entry F.slot_zip_next hT F.entry_zip_next
      (yfr D (subB b1 (A:=X.A.in1) hh (nl1 i1 (by simp))) (subB b2 (A:=X.A.in1) hh (nl2 i2 (by simp))) S.zip S.ti hO ⟨S.it1,p1⟩ ⟨S.it2,p2⟩ (x:=u) (y:=v) (by simpa using eu) (by simpa using ev)
        fun g a1 a2 a3 a4 a5 a6=>wpAny_pure ?_) (F.args_zip_next_1 _))))
    refine ⟨_,rfl,wpAny_letOwnedTupleGo_zip (s:={ s with heap:=g }) a1 fun g' hz' t=>?_⟩
    have lt:∀ {c:Addr} {o:Obj},s.heap.get? c=some o→s.heap.objs.size≠c:=fun e=>Nat.ne_of_gt (Heap.lt_size e)
    have k':∀b o,b∉[z,TI,TO,i1,i2]→s.heap.get? b=some o→g'.get? b=some o:=fun b o hb e=>by
      simp only [List.mem_cons,List.not_mem_nil,or_false,not_or] at hb
      exact t.extBut b o hb.1 (a6 b o hb.1 hb.2.2.1 hb.2.2.2.1 hb.2.2.2.2 e)
    have hTI':IsPair g' TI (.ref i1) (.ref i2):=t.extBut _ _ Iz (a6 _ _ Iz nIO (Ne.symm i1I) (Ne.symm i2I) S.ti)
    have hS':ZSt b1 b2 z TI TO i1 i2 l1 l2 (i+1) g':=⟨hz',hTI',⟨_,_,t.extBut _ _ Oz a2⟩,ybE a3.1 fun o e=>t.extBut _ _ i1z e,ybE a4.1 fun o e=>t.extBut _ _ i2z e⟩
    have fT:H s.heap.objs.size=none:=I.hok.fresh (Nat.le_refl _)
    have J:Inv X pins σ (upd H s.heap.objs.size (.tup [x,y])) { s with heap:=g' }:=I.turnedT (t':=s.toks) (fp:=[z,TI,TO,i1,i2]) hf k' (Nat.le_refl _) (by show 2≤sizeLine;decide) (its:=#[u,v]) (.cons ru (.cons rv .nil)) ⟨_,t.extBut _ _ (lt S.zip) a5,rfl,_,rfl⟩
    refine ⟨.ref s.heap.objs.size,upd H s.heap.objs.size (.tup [x,y]),J,rfl,
      ⟨_,x,y,rfl,fT,rfl,fun xs' hx'=>by rw [I.seqB_inj hx' h1];exact ex,fun ys' hy'=>by rw [I.seqB_inj hy' h2];exact ey⟩,hS',fun b hb=>?_⟩
    have fobj:∃o,s.heap.get? b=some o:=by
      simp only [List.mem_cons,List.not_mem_nil,or_false] at hb
      rcases hb with rfl|rfl|rfl|rfl|rfl
      · exact ⟨_,S.zip⟩
      · exact ⟨_,S.ti⟩
      · exact ⟨_,hO⟩
      · exact ⟨_,e1⟩
      · exact ⟨_,e2⟩
    obtain ⟨o,eo⟩:=fobj
    rw [zag (Ne.symm (lt eo))]
    exact fz b hb
  done:=by
    intro X hP hw hK hc i pins s σ H E I hf S hg
    subst hP hw hK
    obtain ⟨xs,ys,h1,h2,le⟩:=hg
    obtain ⟨us,r1,p1,z1⟩:=I.seqB h1
    obtain ⟨vs,r2,p2,z2⟩:=I.seqB h2
    obtain ⟨p,q,hO⟩:=S.to
    obtain ⟨o1,e1,_,c1⟩:=ya2 S.it1
    obtain ⟨o2,e2,_,c2⟩:=ya2 S.it2
    have hh:X.A.handled=none:=I.ok.hd hc
    have nl1:∀b∈[z,TI,TO,i1,i2],l1≠b:=fun b hb=>I.sq_ne h1 (hf b hb)
    have nl2:∀b∈[z,TI,TO,i1,i2],l2≠b:=fun b hb=>I.sq_ne h2 (hf b hb)
    have i1z:i1≠z:=by rcases c1 with c|c <;> exact za3 e1 S.zip c rfl
    have i2z:i2≠z:=by rcases c2 with c|c <;> exact za3 e2 S.zip c rfl
    have i1I:i1≠TI:=by rcases c1 with c|c <;> exact za3 e1 S.ti c rfl
    have i2I:i2≠TI:=by rcases c2 with c|c <;> exact za3 e2 S.ti c rfl
    have i1O:i1≠TO:=by rcases c1 with c|c <;> exact za3 e1 hO c rfl
    have i2O:i2≠TO:=by rcases c2 with c|c <;> exact za3 e2 hO c rfl
    have Iz:TI≠z:=za3 S.ti S.zip rfl rfl
    have Oz:TO≠z:=za3 hO S.zip rfl rfl
    have D:ZAp z TI TO [i1,l1] [i2,l2] i1 i2:=by
      refine ⟨Iz,Oz,nIO,?_,?_,?_,?_,Ne.symm i1I,Ne.symm i2I,?_,?_⟩
      · simp only [List.mem_cons,List.not_mem_nil,or_false,not_or];exact ⟨Ne.symm i1z,Ne.symm (nl1 z (by simp))⟩
      · simp only [List.mem_cons,List.not_mem_nil,or_false,not_or];exact ⟨Ne.symm i2z,Ne.symm (nl2 z (by simp))⟩
      · simp only [List.mem_cons,List.not_mem_nil,or_false,not_or];exact ⟨Ne.symm i1O,Ne.symm (nl1 TO (by simp))⟩
      · simp only [List.mem_cons,List.not_mem_nil,or_false,not_or];exact ⟨Ne.symm i2O,Ne.symm (nl2 TO (by simp))⟩
      · simp only [List.mem_cons,List.not_mem_nil,or_false,not_or];exact ⟨n12,Ne.symm (nl2 i1 (by simp))⟩
      · simp only [List.mem_cons,List.not_mem_nil,or_false,not_or];exact ⟨Ne.symm n12,Ne.symm (nl1 i2 (by simp))⟩
    have he:us.toArray[i]?=none∨vs.toArray[i]?=none:=by
      have l1:=r1.length
      have l2:=r2.length
      rcases le with l|l
      · exact .inl (by simp;omega)
      · exact .inr (by simp;omega)
    have hT:s.TypeIs (.ref z) "zip":=⟨_,S.zip,rfl⟩
    unfold pyNext
    refine wpAny_bind (wpAny_attempt (wpAny_callSpecial?_slot (name:=Str.ofString "__next__") hT F.slot_zip_next (wpAny_call_entry F.slot_zip_next hT F.entry_zip_next
      (yfE D (subB b1 (A:=X.A.in1) hh (nl1 i1 (by simp))) (subB b2 (A:=X.A.in1) hh (nl2 i2 (by simp))) S.zip S.ti hO ⟨S.it1,p1⟩ ⟨S.it2,p2⟩ he fun g e kg ⟨oe,ho,hce⟩=>?_) (F.args_zip_next_1 _))))
    refine wpAny_bind (wpAny_isInstance (T:="StopIteration") (b:=true) ⟨oe,ho,hce⟩ isSubtype_stop (wpAny_pure ⟨rfl,?_⟩))
    refine I.turnedL (t':=s.toks) (fp:=[z,TI,TO,i1,i2]) hf fun b o hb e=>?_
    simp only [List.mem_cons,List.not_mem_nil,or_false,not_or] at hb
    exact kg b o hb.1 hb.2.2.1 hb.2.2.2.1 hb.2.2.2.2 e
  self:=fun A i s Q E S h=>wpAny_pyIter_zip S.zip h
def yfq (h:Heap) (o1 o2:Obj):Heap:=(((h.push o1).push o2).push { cls:=.type "tuple",data:=.seq #[.ref h.objs.size,.ref (h.push o1).objs.size] }).push { cls:=.type "tuple",data:=.seq #[.none,.none] }
def zcD (h:Heap) (o1 o2:Obj):Heap:=(yfq h o1 o2).push { cls:=.type "zip",data:=.fields #[.none,.bool false,.bool false,.ref ((h.push o1).push o2).objs.size,.ref (((h.push o1).push o2).push { cls:=.type "tuple",data:=.seq #[.ref h.objs.size,.ref (h.push o1).objs.size] }).objs.size] }
theorem yeE (b1 b2:Bool) (l1 l2:Addr) (xs ys:Array Value) :
    Meets (Builtin.«zip.__new__» ⟨[.type "zip",.ref l1,.ref l2],[]⟩) (fun _ R s=>zbo b1 s.heap l1 xs∧zbo b2 s.heap l2 ys∧R (.ok (.ret (.ref (yfq s.heap (yaq b1 l1) (yaq b2 l2)).objs.size))) { s with heap:=zcD s.heap (yaq b1 l1) (yaq b2 l2) }) :=
  .of_wp fun prog w A R s h=>by
    obtain ⟨hp,g,d,tk,os⟩:=s;obtain ⟨hl1,hl2,h⟩:=h
    have hsub:=sub_zip
    have hL1:zbo b1 (Shared.heap ⟨hp,g,d,tk,os⟩) l1 xs:=hl1
    have hL2:zbo b2 (Shared.heap ⟨hp.push (yaq b1 l1),g,d,tk,os⟩) l2 ys:=zeN hl2 fun o e=>Heap.get?_push_of_some _ e
    wp_walk using zcg hL1,zcg hL2
    exact ⟨_,rfl,h⟩
end L2
end
section
-- text: ExtD
namespace L2
open PySem PySem.Spec PyProof.Rows
section
variable {X:Cx}
def iZip (K:PySem.W.Frag) (ta:TA):TI:=fun σ H R=>ta σ H fun vs H1=>∃b1 b2 a1 a2,vs=[.ref a1,.ref a2]∧(∃xs,SqB K b1 H1 a1 xs)∧(∃ys,SqB K b2 H1 a2 ys)∧R (Itz K b1 b2 a1 a2) H1
theorem zhb {pins:List (Addr×Obj)} {σ:St} {H:Hp} {s:Shared} {R:It→Hp→Prop} {elts:List Expr} {kk:Nat} {tpos:Pos} {b1 b2:Bool} {l1 l2:Addr} {xs ys:List V} (I:Inv X pins σ H s) (h1:SqB X.K b1 H l1 xs) (h2:SqB X.K b2 H l2 ys) (q:R (Itz X.K b1 b2 l1 l2) H) :
    wpAny (model X.prog X.w) X.A (call (.type "zip") [.ref l1,.ref l2]) (fun v s1=>wpAny (model X.prog X.w) X.A (pyIter v) (PIE X pins σ (.Tuple elts kk tpos) R) X.xe s1) X.xe s:=by
  obtain ⟨us,r1,p1,z1⟩:=I.seqB h1
  obtain ⟨vs,r2,p2,z2⟩:=I.seqB h2
  refine callType_new F.called_zip (by decide) (F.typeCall_zip_2 _ _) (F.newCall_zip_2 _ _) (fun obj=>F.args_object_init_3 obj _ _) F.entry_zip_new (yeE b1 b2 l1 l2 us.toArray vs.toArray) ⟨p1,p2,?_⟩
  generalize hn:s.heap.objs.size=n
  have s1:(s.heap.push (yaq b1 l1)).objs.size=n+1:=by rw [Heap.size_push,hn]
  have s2:((s.heap.push (yaq b1 l1)).push (yaq b2 l2)).objs.size=n+2:=by rw [Heap.size_push,s1]
  have s3:(((s.heap.push (yaq b1 l1)).push (yaq b2 l2)).push { cls:=.type "tuple",data:=.seq #[.ref s.heap.objs.size,.ref (s.heap.push (yaq b1 l1)).objs.size] }).objs.size=n+3:=by rw [Heap.size_push,s2]
  have s4:(yfq s.heap (yaq b1 l1) (yaq b2 l2)).objs.size=n+4:=by unfold yfq;rw [Heap.size_push,s3]
  have old:∀b o,s.heap.get? b=some o→(zcD s.heap (yaq b1 l1) (yaq b2 l2)).get? b=some o:=fun b o e=>Heap.get?_push_of_some _ (Heap.get?_push_of_some _ (Heap.get?_push_of_some _ (Heap.get?_push_of_some _ (Heap.get?_push_of_some _ e))))
  have gz:(zcD s.heap (yaq b1 l1) (yaq b2 l2)).get? (n+4)=some { cls:=.type "zip",data:=.fields #[.none,.bool false,.bool false,.ref (n+2),.ref (n+3)] }:=by
    have e:(zcD s.heap (yaq b1 l1) (yaq b2 l2)).get? (yfq s.heap (yaq b1 l1) (yaq b2 l2)).objs.size=some _:=Heap.get?_push_size _ rfl
    rw [s4] at e
    rw [e,s2,s3]
  have gO:(zcD s.heap (yaq b1 l1) (yaq b2 l2)).get? (n+3)=some { cls:=.type "tuple",data:=.seq #[.none,.none] }:=by
    have e:=Heap.get?_push_size (h:=((s.heap.push (yaq b1 l1)).push (yaq b2 l2)).push { cls:=.type "tuple",data:=.seq #[.ref s.heap.objs.size,.ref (s.heap.push (yaq b1 l1)).objs.size] }) (o:={ cls:=.type "tuple",data:=.seq #[.none,.none] }) rfl
    rw [s3] at e
    exact Heap.get?_push_of_some _ e
  have gI:(zcD s.heap (yaq b1 l1) (yaq b2 l2)).get? (n+2)=some { cls:=.type "tuple",data:=.seq #[.ref n,.ref (n+1)] }:=by
    have e:(zcD s.heap (yaq b1 l1) (yaq b2 l2)).get? ((s.heap.push (yaq b1 l1)).push (yaq b2 l2)).objs.size=some { cls:=.type "tuple",data:=.seq #[.ref s.heap.objs.size,.ref (s.heap.push (yaq b1 l1)).objs.size] }:=Heap.get?_push_of_some _ (Heap.get?_push_of_some _ (Heap.get?_push_size _ rfl))
    rw [s2] at e
    rw [e,s1,hn]
  have g2:(zcD s.heap (yaq b1 l1) (yaq b2 l2)).get? (n+1)=some (yaq b2 l2):=by
    have e:=Heap.get?_push_size (h:=s.heap.push (yaq b1 l1)) (o:=yaq b2 l2) rfl
    rw [s1] at e
    exact Heap.get?_push_of_some _ (Heap.get?_push_of_some _ (Heap.get?_push_of_some _ e))
  have g1:(zcD s.heap (yaq b1 l1) (yaq b2 l2)).get? n=some (yaq b1 l1):=by
    have e:=Heap.get?_push_size (h:=s.heap) (o:=yaq b1 l1) rfl
    rw [hn] at e
    exact Heap.get?_push_of_some _ (Heap.get?_push_of_some _ (Heap.get?_push_of_some _ (Heap.get?_push_of_some _ e)))
  rw [s4]
  refine ⟨⟨_,gz,rfl⟩,wpAny_pyIter_zip gz ?_⟩
  have I1:Inv X pins σ H { s with heap:=zcD s.heap (yaq b1 l1) (yaq b2 l2) }:=I.kept (t':=s.toks) old
  refine ⟨n+4,[n+4,n+2,n+3,n,n+1],_,_,H,rfl,I1,zfI b1 b2 (n+4) (n+2) (n+3) n (n+1) l1 l2 (show @Ne Nat _ _ by omega) (show @Ne Nat _ _ by omega),⟨gz,gI,⟨_,_,gO⟩,ycz _ _ _ _ g1,ycz _ _ _ _ g2⟩,fun b hb=>?_,q⟩
  have le:s.heap.objs.size≤b:=by
    rw [hn]
    simp only [List.mem_cons,List.not_mem_nil,or_false] at hb
    show @LE.le Nat _ n b
    rcases hb with e|e|e|e|e <;> (have e':@Eq Nat b _:=e;omega)
  exact I.fpOk le (I.hok.fresh le)
theorem zgY {a b:Expr} {ta:TA} {p pos:Pos} {elts:List Expr} {kk:Nat} {tpos:Pos} (hg:Gl X "zip") (hm:X.mg "zip"=none) (ha:PA X [a,b] ta) (hs:starEach [a,b] X.env=[(false,eval a X.env),(false,eval b X.env)]:=by rfl) (hs2:starEach [b] X.env=[(false,eval b X.env)]:=by rfl) :
    PI X (.Tuple elts kk tpos) (.Call (.Name "zip" p) [a,b] [] pos) (iZip X.K ta):=by
  intro pins s σ H R I h
  refine Call_ (ybu I hg hm (u:=.type "zip") boot_zip (PyProof.Rows.callWith_type1 (thn (ha pos pins s σ H _ I h) fun us s1 ⟨vs,H1,I1,r1,q1⟩=>?_) (by rw [hs,hs2]) (by rw [hs2];rfl)))
  obtain ⟨b1,b2,a1,a2,e,⟨xs,h1⟩,⟨ys,h2⟩,q⟩:=q1
  subst e
  cases r1 with
  | cons r rr =>
    cases rr with
    | cons r' rr =>
      cases rr
      cases r
      cases r'
      exact zhb I1 h1 h2 q
end
end L2
end
section
-- text: ExtE
namespace L2
open PySem PySem.Spec PyProof.Rows
def Ite (K:PySem.W.Frag) (b:Bool) (l:Addr):It :=
  ⟨fun i H=>∃xs x,SqB K b H l xs∧xs[i]?=some x,
   fun i H v H'=>∃T x,v = .ref T∧H T=none∧H'=upd H T (.tup [.int i,x])∧(∀xs,SqB K b H l xs→xs[i]?=some x),
   fun i H=>∃xs,SqB K b H l xs∧xs.length≤i⟩
theorem zgZ {P:Program} {w:World} {A:Around} (b:Bool) {a l:Addr} {xs:Array Value} (hh:A.handled=none) (ne:l≠a):Draws P w A a [a,l] xs.size (fun i v=>xs[i]?=some v) (fun k h=>ycY b h a l k∧zbo b h l xs) where
  live:=fun k h z=>let ⟨o,e,_⟩:=(subB (P:=P) (w:=w) b hh ne).obj k h z;⟨o,e⟩
  frame:=fun k h h' z q=>(subB (P:=P) (w:=w) b hh ne).keep k h h' z q
  item:=fun k s Q E hk z q=>by
    have hx:xs[k]?=some xs[k]:=Array.getElem?_eq_getElem hk
    exact (subB (P:=P) (w:=w) b hh ne).item k xs[k] s Q E z hx fun h' a1 a2=>q xs[k] h' s.toks hx a1 a2
  done:=fun s Q E z q=>(subB (P:=P) (w:=w) b hh ne).stop xs.size s Q E z (Array.getElem?_eq_none (Nat.le_refl _)) q
structure ESt (b:Bool) (e it l:Addr) (k:Nat) (h:Heap):Prop where
  en:∃old,IsEnum h e it k old
  it:ycY b h it l k
theorem ze2 {P:Program} {w:World} {K:PySem.W.Frag} {elts:List Expr} {kk:Nat} {tpos:Pos} (b:Bool) (e it l:Addr) :
    Turn P w K (.Tuple elts kk tpos) (Ite K b l) [e,it] e (ESt b e it l) where
  mem:=List.mem_cons_self
  obj:=fun k h S c hc=>by
    obtain ⟨old,he⟩:=S.en
    obtain ⟨o1,e1,d1,_⟩:=ya2 S.it
    simp only [List.mem_cons,List.not_mem_nil,or_false] at hc
    rcases hc with rfl|rfl
    · exact ⟨_,he,fun v q=>by cases q⟩
    · exact ⟨o1,e1,d1⟩
  keep:=fun k h h' S q=>by
    obtain ⟨old,he⟩:=S.en
    exact ⟨⟨old,q e (by simp) _ he⟩,ybE S.it fun o x=>q it (by simp) o x⟩
  item:=by
    intro X hP hw hK hc i pins s σ H E I hf S hg
    subst hP hw hK
    obtain ⟨xs,x,h1,ex⟩:=hg
    obtain ⟨us,r1,p1,z1⟩:=I.seqB h1
    obtain ⟨u,eu,ru⟩:=r1.get ex
    obtain ⟨old,he⟩:=S.en
    obtain ⟨o1,e1,_,c1⟩:=ya2 S.it
    have hh:X.A.handled=none:=I.ok.hd hc
    have nl:∀c∈[e,it],l≠c:=fun c hc=>I.sq_ne h1 (hf c hc)
    have ei:e≠it:=by rcases c1 with c|c <;> exact za3 he e1 rfl c
    have ilt:i<us.toArray.size:=by
      have:=(List.getElem?_eq_some_iff.mp eu).1
      simpa using this
    refine wpAny_pyNext_enum_itemD (zgZ b (A:=X.A.in1) hh (nl it (by simp))) he ⟨S.it,p1⟩ ilt ei (by simp only [List.mem_cons,List.not_mem_nil,or_false,not_or];exact ⟨ei,Ne.symm (nl e (by simp))⟩) fun y g tk hy a1 a2 a3 a4 a5=>?_
    have ey:y=u:=by
      have q1:us[i]?=some y:=by simpa using hy
      rw [eu] at q1;cases q1;rfl
    subst ey
    refine ⟨_,rfl,wpAny_letOwnedTupleGo_enum (s:={ s with heap:=g,toks:=tk+1 }) a1 fun g' he' t=>?_⟩
    have lt:∀ {c:Addr} {o:Obj},s.heap.get? c=some o→s.heap.objs.size≠c:=fun q=>Nat.ne_of_gt (Heap.lt_size q)
    have k':∀c o,c∉[e,it]→s.heap.get? c=some o→g'.get? c=some o:=fun c o hc q=>by
      simp only [List.mem_cons,List.not_mem_nil,or_false,not_or] at hc
      exact t.extBut c o hc.1 (a5 c o hc.1 hc.2 q)
    have hS':ESt b e it l (i+1) g':=⟨⟨_,by simpa using he'⟩,ybE a2.1 fun o q=>t.extBut _ _ (Ne.symm ei) q⟩
    have fT:H s.heap.objs.size=none:=I.hok.fresh (Nat.le_refl _)
    have J:Inv X pins σ (upd H s.heap.objs.size (.tup [.int i,x])) { s with heap:=g',toks:=tk+1 } :=
      I.turnedT (t':=tk+1) (fp:=[e,it]) hf k' (Nat.le_refl _) (by show 2≤sizeLine;decide) (its:=#[.int i tk,y]) (.cons ⟨_,rfl⟩ (.cons ru .nil)) ⟨_,t.extBut _ _ (lt he) a3,rfl,_,rfl⟩
    refine ⟨.ref s.heap.objs.size,upd H s.heap.objs.size (.tup [.int i,x]),J,rfl,⟨_,x,rfl,fT,rfl,fun xs' hx'=>by rw [I.seqB_inj hx' h1];exact ex⟩,hS',fun c hc=>?_⟩
    have fobj:∃o,s.heap.get? c=some o:=by
      simp only [List.mem_cons,List.not_mem_nil,or_false] at hc
      rcases hc with rfl|rfl
      · exact ⟨_,he⟩
      · exact ⟨_,e1⟩
    obtain ⟨o,eo⟩:=fobj
    rw [zag (Ne.symm (lt eo))]
    exact (hf c hc).1
  done:=by
    intro X hP hw hK hc i pins s σ H E I hf S hg
    subst hP hw hK
    obtain ⟨xs,h1,le⟩:=hg
    obtain ⟨us,r1,p1,z1⟩:=I.seqB h1
    obtain ⟨old,he⟩:=S.en
    have hh:X.A.handled=none:=I.ok.hd hc
    have nl:∀c∈[e,it],l≠c:=fun c hc=>I.sq_ne h1 (hf c hc)
    have D:=subB (P:=X.prog) (w:=X.w) b (A:=X.A.in1) (xs:=us.toArray) hh (nl it (by simp))
    have hT:s.TypeIs (.ref e) "enumerate":=⟨_,he,rfl⟩
    unfold pyNext
    refine wpAny_bind (wpAny_attempt (wpAny_callSpecial?_slot (name:=Str.ofString "__next__") hT F.slot_enumerate_next (wpAny_call_entry F.slot_enumerate_next hT F.entry_enumerate_next ?_ (F.args_enumerate_next_1 _))))
    show wpAny _ _ (field (.ref e) 2 >>= _) _ _ s;refine wpAny_bind (wpAny_field he rfl (x:=.ref it) rfl ?_)
    refine wpAny_bind (D.stop i _ _ _ ⟨S.it,p1⟩ (by have:=r1.length;simp;omega) fun g x t ⟨o,ho,hce⟩=>?_)
    refine wpAny_bind (wpAny_isInstance (T:="StopIteration") (b:=true) ⟨o,ho,hce⟩ isSubtype_stop (wpAny_pure ⟨rfl,?_⟩))
    refine I.turnedL (t':=s.toks) (fp:=[e,it]) hf fun c o hc q=>?_
    simp only [List.mem_cons,List.not_mem_nil,or_false,not_or] at hc
    exact t c o hc.2 q
  self:=fun A i s Q E S h=>let ⟨_,he⟩:=S.en;wpAny_pyIter_enum he h
theorem zd3 (b:Bool) (l:Addr) (xs:Array Value) (n:Nat) (dct:Option Addr) (sl:Array (Option Value)) :
    Meets (Builtin.«enumerate.__new__» ⟨[.type "enumerate",.ref l],[]⟩) (fun _ R s=>s.heap.get? l=some { cls:=.type (if b then "tuple" else "list"),dict:=dct,data:=.seq xs n,slots:=sl }∧R (.ok (.ret (.ref (s.heap.push (yaq b l)).objs.size))) { s with heap:=(s.heap.push (yaq b l)).push { cls:=.type "enumerate",data:=.fields #[.none,.bool false,.ref s.heap.objs.size,rawInt 0,.none,.none] } }) :=
  .of_wp fun prog w A R s h=>by
    obtain ⟨hp,g,d,tk,os⟩:=s;obtain ⟨hl,h⟩:=h
    have hsub:=sub_enumerate
    have hL:zbo b (Shared.heap ⟨hp,g,d,tk,os⟩) l xs:=by cases b <;> exact ⟨_,hl,rfl,n,rfl⟩
    wp_walk using wpAny_loadPart' hl;(refine wpAny_stack_any fun st=>wpAny_pure ?_);split
    · rename_i c _ _ _ _ _;cases (c==Value.type "enumerate") <;> (wp_walk using wpAny_loadPart' hl,zcg hL;exact ⟨_,rfl,h⟩)
    · wp_walk using wpAny_loadPart' hl,zcg hL;exact ⟨_,rfl,h⟩
theorem zd1 {b:Bool} {h:Heap} {l:Addr} {xs:Array Value} (x:zbo b h l xs):∃n dct sl,h.get? l=some { cls:=.type (if b then "tuple" else "list"),dict:=dct,data:=.seq xs n,slots:=sl }:=by
  cases b <;> obtain ⟨⟨c,dct,dt,sl⟩,e,hc,n,hd⟩:=x
  · replace hc:c = .type "list":=hc
    replace hd:dt = .seq xs n:=hd
    subst hc hd;exact ⟨n,dct,sl,e⟩
  · replace hc:c = .type "tuple":=hc
    replace hd:dt = .seq xs n:=hd
    subst hc hd;exact ⟨n,dct,sl,e⟩
section
variable {X:Cx}
def yhm (K:PySem.W.Frag) (ta:TA):TI:=fun σ H R=>ta σ H fun vs H1=>∃b a,vs=[.ref a]∧(∃xs,SqB K b H1 a xs)∧R (Ite K b a) H1
theorem zgu {pins:List (Addr×Obj)} {σ:St} {H:Hp} {s:Shared} {R:It→Hp→Prop} {elts:List Expr} {kk:Nat} {tpos:Pos} {b:Bool} {l:Addr} {xs:List V} (I:Inv X pins σ H s) (h1:SqB X.K b H l xs) (q:R (Ite X.K b l) H) :
    wpAny (model X.prog X.w) X.A (call (.type "enumerate") [.ref l]) (fun v s1=>wpAny (model X.prog X.w) X.A (pyIter v) (PIE X pins σ (.Tuple elts kk tpos) R) X.xe s1) X.xe s:=by
  obtain ⟨us,r1,p1,z1⟩:=I.seqB h1
  obtain ⟨m,dct,sl,hl⟩:=zd1 p1
  refine callType_new F.called_enumerate (by decide) (F.typeCall_enumerate_1 _) (F.newCall_enumerate_1 _) (fun obj=>F.args_object_init_2 obj _) F.entry_enumerate_new (zd3 b l us.toArray m dct sl) ⟨hl,?_⟩
  generalize hn:s.heap.objs.size=n
  have s1:(s.heap.push (yaq b l)).objs.size=n+1:=by rw [Heap.size_push,hn]
  generalize hG:(s.heap.push (yaq b l)).push { cls:=.type "enumerate",data:=.fields #[.none,.bool false,.ref n,rawInt 0,.none,.none] }=G
  have old:∀c o,s.heap.get? c=some o→G.get? c=some o:=fun c o e=>hG ▸ Heap.get?_push_of_some _ (Heap.get?_push_of_some _ e)
  have ge:IsEnum G (n+1) n 0 .none:=by
    have e:G.get? (s.heap.push (yaq b l)).objs.size=some { cls:=.type "enumerate",data:=.fields #[.none,.bool false,.ref n,rawInt 0,.none,.none] }:=hG ▸ Heap.get?_push_size _ rfl
    rw [s1] at e;exact e
  have gi:G.get? n=some (yaq b l):=by
    have e:G.get? s.heap.objs.size=some (yaq b l):=hG ▸ Heap.get?_push_of_some _ (Heap.get?_push_size _ rfl)
    rw [hn] at e;exact e
  rw [s1]
  refine ⟨⟨_,ge,rfl⟩,wpAny_pyIter_enum ge ?_⟩
  have I1:Inv X pins σ H { s with heap:=G }:=I.kept (t':=s.toks) old
  refine ⟨n+1,[n+1,n],_,_,H,rfl,I1,ze2 b (n+1) n l,⟨⟨_,ge⟩,ycz _ _ _ _ gi⟩,fun c hc=>?_,q⟩
  have le:s.heap.objs.size≤c:=by
    rw [hn]
    simp only [List.mem_cons,List.not_mem_nil,or_false] at hc
    show @LE.le Nat _ n c
    rcases hc with e|e <;> (have e':@Eq Nat c _:=e;omega)
  exact I.fpOk le (I.hok.fresh le)
theorem ybJ {a:Expr} {ta:TA} {p pos:Pos} {elts:List Expr} {kk:Nat} {tpos:Pos} (hg:Gl X "enumerate") (hm:X.mg "enumerate"=none) (ha:PA X [a] ta) (hs:starEach [a] X.env=[(false,eval a X.env)]:=by rfl) :
    PI X (.Tuple elts kk tpos) (.Call (.Name "enumerate" p) [a] [] pos) (yhm X.K ta):=by
  intro pins s σ H R I h
  refine Call_ (ybu I hg hm (u:=.type "enumerate") boot_enumerate (PyProof.Rows.callWith_type1 (thn (ha pos pins s σ H _ I h) fun us s1 ⟨vs,H1,I1,r1,q1⟩=>?_) hs rfl))
  obtain ⟨b,a,e,⟨xs,h1⟩,q⟩:=q1
  subst e
  cases r1 with
  | cons r rr =>
    cases rr
    cases r
    exact zgu I1 h1 q
end
structure Seqs (J:It) (n:Nat) (G:Hp→Prop) (y:Nat→V→Hp→Hp→Prop):Prop where
  go:∀i H,i<n→G H→J.go i H
  stop:∀H,G H→J.stop n H
  yld:∀i H x H',i<n→G H→J.yld i H x H'→y i x H H'
theorem za1 {K:PySem.W.Frag} {a:Addr} {xs:List V}:Seqs (Itl K a) xs.length (fun H=>SqL K H a xs) (fun i x H H'=>H'=H∧xs[i]?=some x) :=
  ⟨fun i H hi g=>⟨xs,xs[i],g,by simp [hi]⟩,fun H g=>⟨xs,g,Nat.le_refl _⟩,fun i H x H' hi g q=>⟨q.1,q.2 xs g⟩⟩
theorem yc6 {K:PySem.W.Frag} {a:Addr} {xs:List V}:Seqs (Itt K a) xs.length (fun H=>SqT K H a xs) (fun i x H H'=>H'=H∧xs[i]?=some x) :=
  ⟨fun i H hi g=>⟨xs,xs[i],g,by simp [hi]⟩,fun H g=>⟨xs,g,Nat.le_refl _⟩,fun i H x H' hi g q=>⟨q.1,q.2 xs g⟩⟩
theorem ya9 {lo:Int} {n:Nat}:Seqs (Itr lo n) n (fun _=>True) (fun i x H H'=>H'=H∧x = .int (lo+i)) :=
  ⟨fun i H hi _=>hi,fun H _=>Nat.le_refl _,fun i H x H' hi _ q=>q⟩
theorem yfG {K:PySem.W.Frag} {b1 b2:Bool} {l1 l2:Addr} {xs ys:List V}:Seqs (Itz K b1 b2 l1 l2) (min xs.length ys.length) (fun H=>SqB K b1 H l1 xs∧SqB K b2 H l2 ys)
    (fun i x H H'=>∃T u v,x = .ref T∧xs[i]?=some u∧ys[i]?=some v∧H T=none∧H'=upd H T (.tup [u,v])) :=
  ⟨fun i H hi g=>⟨xs,ys,xs[i]'(by omega),ys[i]'(by omega),g.1,g.2,by simp,by simp⟩,
   fun H g=>⟨xs,ys,g.1,g.2,by omega⟩,
   fun i H x H' hi g ⟨T,u,v,e1,e2,e3,e4,e5⟩=>⟨T,u,v,e1,e4 xs g.1,e5 ys g.2,e2,e3⟩⟩
theorem zbb {K:PySem.W.Frag} {b:Bool} {l:Addr} {xs:List V}:Seqs (Ite K b l) xs.length (fun H=>SqB K b H l xs)
    (fun i x H H'=>∃T u,x = .ref T∧xs[i]?=some u∧H T=none∧H'=upd H T (.tup [.int i,u])) :=
  ⟨fun i H hi g=>⟨xs,xs[i],g,by simp [hi]⟩,fun H g=>⟨xs,g,Nat.le_refl _⟩,fun i H x H' hi g ⟨T,u,e1,e2,e3,e4⟩=>⟨T,u,e1,e4 xs g,e2,e3⟩⟩
theorem za4 {J:It} {n:Nat} {G:Hp→Prop} {y:Nat→V→Hp→Hp→Prop} (S:Seqs J n G y) {g:TG} {tb:TS} {D:Ends} {σ:St} {H:Hp} (Pv:Nat→St→Hp→Prop) (h0:Pv 0 σ H) (hl:∀i σ H,i≤n→Pv i σ H→G H)
    (hs:∀i x σ H H',i<n→Pv i σ H→y i x H H'→g x σ H' fun σ2 H2=>tb { D with nx:=Pv (i+1),ct:=Pv (i+1),bk:=D.nx } σ2 H2) (hd:∀σ H,Pv n σ H→D.nx σ H) :
    ∃W:Nat→Nat→St→Hp→Prop,(∃m,W 0 m σ H)∧∀i m σ H,W i m σ H→
      (J.stop i H∧D.nx σ H)∨(J.go i H∧∃N:St→Hp→Prop,(∀σ' H',N σ' H'→∃m',m'<m∧W (i+1) m' σ' H')∧∀x H',J.yld i H x H'→g x σ H' fun σ2 H2=>tb { D with nx:=N,ct:=N,bk:=D.nx } σ2 H2):=by
  refine ⟨fun i m σ H=>m=n-i∧i≤n∧Pv i σ H,⟨n,by simp,Nat.zero_le _,h0⟩,?_⟩
  rintro i m σ H ⟨rfl,hi,p⟩
  by_cases hlt:i<n
  · exact .inr ⟨S.go i H hlt (hl i σ H hi p),Pv (i+1),fun σ' H' p'=>⟨n-(i+1),by omega,rfl,hlt,p'⟩,fun x H' q=>hs i x σ H H' hlt p (S.yld i H x H' hlt (hl i σ H hi p) q)⟩
  · have e:i=n:=by omega
    subst e
    exact .inl ⟨S.stop H (hl _ σ H hi p),hd σ H p⟩
theorem zaI {J:It} {n:Nat} {G:Hp→Prop} {y:Nat→V→Hp→Hp→Prop} (S:Seqs J n G y) {σc:St} {g:TG} {ti:TT} {te:TE} {H:Hp} {Fn:List V→Hp→Prop} (Pv:Nat→List V→Hp→Prop) (h0:Pv 0 [] H) (hl:∀i acc H,i≤n→Pv i acc H→G H)
    (hz:∀i acc H,i<n→Pv i acc H→acc.length<sizeLine)
    (hs:∀i acc x H H',i<n→Pv i acc H→y i x H H'→g x σc H' fun σ2 H2=>ti σ2 H2 fun b H3=>if b=true then te σ2 H3 fun v H4=>Pv (i+1) (acc++[v]) H4 else Pv (i+1) acc H3)
    (hd:∀acc H,Pv n acc H→Fn acc H) :
    ∃W:yfZ,(∃m,W 0 m [] H)∧∀i m acc H,W i m acc H→
      (J.stop i H∧Fn acc H)∨
      (J.go i H∧acc.length<sizeLine∧∃N:List V→Hp→Prop,(∀acc' H',N acc' H'→∃m',m'<m∧W (i+1) m' acc' H')∧∀x H',J.yld i H x H'→g x σc H' fun σ2 H2=>ti σ2 H2 fun b H3=>if b=true then te σ2 H3 fun v H4=>N (acc++[v]) H4 else N acc H3):=by
  refine ⟨fun i m acc H=>m=n-i∧i≤n∧Pv i acc H,⟨n,by simp,Nat.zero_le _,h0⟩,?_⟩
  rintro i m acc H ⟨rfl,hi,p⟩
  by_cases hlt:i<n
  · exact .inr ⟨S.go i H hlt (hl i acc H hi p),hz i acc H hlt p,Pv (i+1),fun acc' H' p'=>⟨n-(i+1),by omega,rfl,hlt,p'⟩,fun x H' q=>hs i acc x H H' hlt p (S.yld i H x H' hlt (hl i acc H hi p) q)⟩
  · have e:i=n:=by omega
    subst e
    exact .inl ⟨S.stop H (hl _ acc H hi p),hd acc H p⟩
end L2
end
section
-- text: ExtF
namespace L2
open PySem PySem.Spec PyProof.Rows
section
variable {X:Cx}
def CDv (i j:Int):Prop:=0<j∧j<2^64
theorem CDv.log {i j:Int} (h:CDv i j):j.natAbs.log2<9000:=by
  obtain ⟨h1,h2⟩:=h
  have h0:j.natAbs≠0:=by omega
  have:j.natAbs<2^64:=by omega
  exact Nat.lt_of_lt_of_le ((Nat.log2_lt h0).mpr this) (by decide)
theorem ydG:OpR X (binaryOp .FloorDiv) (rI CDv fun i j=>.int (i/j)):=opI fun i j _ _ _ _ _ hc q=>by
  have h1:(0:Int)<j:=hc.1
  exact floordiv_int (by omega) (by rw [Int.fdiv_eq_ediv_of_nonneg i (by omega)];exact q) (.inl (PyProof.noPylong_of_log2 hc.log))
def CDvB (i j:Int):Prop:=0<j∧j<2^1000
theorem CDvB.log {i j:Int} (h:CDvB i j):j.natAbs.log2<9000:=by
  obtain ⟨h1,h2⟩:=h
  have h0:j.natAbs≠0:=by omega
  have:j.natAbs<2^1000:=by omega
  exact Nat.lt_of_lt_of_le ((Nat.log2_lt h0).mpr this) (by decide)
theorem zgJ:OpR X (binaryOp .FloorDiv) (rI CDvB fun i j=>.int (i/j)):=opI fun i j _ _ _ _ _ hc q=>by
  have h1:(0:Int)<j:=hc.1
  exact floordiv_int (by omega) (by rw [Int.fdiv_eq_ediv_of_nonneg i (by omega)];exact q) (.inl (PyProof.noPylong_of_log2 hc.log))
theorem zcu:OpR X (inplaceOp .FloorDiv) (rI CDv fun i j=>.int (i/j)):=opI fun i j _ _ _ _ _ hc q=>by
  have h1:(0:Int)<j:=hc.1
  exact ifloordiv_int (by omega) (by rw [Int.fdiv_eq_ediv_of_nonneg i (by omega)];exact q) (.inl (PyProof.noPylong_of_log2 hc.log))
theorem ygl:OpR X (binaryOp .Mult) (rI IntMulOk fun i j=>.int (i*j)):=opI fun _ _ _ _ _ _ _ hc q=>mul_int q hc
def rNeE (K:PySem.W.Frag):R2:=fun x y H Q=>∃a b xs,x = .ref a∧y = .ref b∧SqL K H a xs∧SqL K H b []∧Q (.bl (!xs.isEmpty)) H
theorem zf5 (hu:X.A.units<cLine):OpR X (compareOp .NotEq) (rNeE X.K):=by
  intro pins s σ H x y v u Q I rx ry h
  obtain ⟨a,b,xs,rfl,rfl,ha,hb,q⟩:=h
  cases rx;cases ry
  obtain ⟨us,r1,p1,z1⟩:=I.list ha
  obtain ⟨vs,r2,p2,z2⟩:=I.list hb
  cases r2
  cases xs with
  | nil =>
    cases r1
    exact SeqAt.RcNeAt.lists (e:=fun _=>true) p1.isList p2.isList rfl hu (fun j h1 _=>absurd h1 (by simp)) _ _ _ _ ⟨.bl false,H,I,rfl,q⟩
  | cons x xs =>
    cases r1
    exact SeqAt.RcNeAt.lists_lengths p1.isList p2.isList (by simp) hu _ _ _ _ ⟨.bl true,H,I,rfl,q⟩
def tRev (K:PySem.W.Frag) (te:TE):TE:=fun σ H Q=>te σ H fun x H1=>∃a xs,x = .ref a∧SqL K H1 a xs∧∀p,H1 p=none→Q (.ref p) (upd H1 p (.lst xs.reverse))
theorem zgT {e:Expr} {te:TE} {p0 p1 p2 pos:Pos} {j} (he:PE X e te):PE X (.Subscript e (.Slice none none (some (.UnaryOp .USub (.Constant (.int 1) j p0) p1)) p2) pos) (tRev X.K te):=by
  intro pins s σ H Q I h
  refine Subscript_ (thn (he pins s σ H _ I h) fun v s1 ⟨x,H1,I1,r1,q1⟩=>?_)
  obtain ⟨a,xs,rfl,hx,q⟩:=q1
  cases r1
  refine wpAny_Slice ?_
  rw [evalPart_none]
  refine wpAny_pure ?_
  refine wpAny_pure ?_
  rw [evalPart_some]
  refine thn ((yd3 ycA (yac (X:=X))) pins s1 σ H1 (fun v H'=>v = .int (-1)∧H'=H1) I1 ⟨1,rfl,rfl,rfl⟩) fun st s2 ⟨v,H2,I2,r2,e1,e2⟩=>?_
  subst e1 e2
  obtain ⟨t,rfl⟩:=r2
  have I4:Inv X pins σ H2 { s2 with heap:=s2.heap.push { cls:=.type "slice",data:=.fields #[.none,.none,.int (-1) t] } }:=I2.kept (t':=s2.toks) fun b ob q=>Heap.get?_push_of_some _ q
  obtain ⟨its,r,ht,hz⟩:=I4.list hx
  have hlen:=r.length
  show wpAny (model X.prog X.w) X.A (subscriptTail e _ (.ref a) (.ref s2.heap.objs.size)) (EP X pins σ Q) X.xe { s2 with heap:=s2.heap.push { cls:=.type "slice",data:=.fields #[.none,.none,.int (-1) t] } }
  refine tail_any (ops:=[.ref a,.ref s2.heap.objs.size]) ht.isList.typeIs slot_list_getitem.lookup ?_ (by with_unfolding_all rfl)
  refine wpAny_getItem_list_slice ht.isList (Heap.IsSliceOf.new ..) .none .none (.int (-1) t) (by simp) ?_ (by rw [List.size_toArray];omega)
  rw [PySem.W.krv_pick]
  refine ⟨.ref _,_,I4.laid (t':=s2.toks) (o:=.lst xs.reverse) (fun b ob q=>Heap.get?_push_of_some _ q) (Nat.le_refl _) ?_,rfl,q _ (I4.hok.fresh (Nat.le_refl _))⟩
  exact ⟨by rw [List.length_reverse];exact hz,its.reverse,0,r.reverse,Heap.get?_push_size _ rfl⟩
theorem zcN:∀ {bs:List Bool} {us:List Value},Vals (bs.map V.bl) us→us=bs.map Value.bool
  | [],_,.nil=>rfl
  | b::bs,_,.cons r t=>by cases r;rw [zcN t];rfl
theorem yfv (bs:List Bool):(List.range bs.length).all (fun i=>bs.getD i true)=bs.all id:=by
  induction bs with
  | nil=>rfl
  | cons b bs ih =>
    rw [List.length_cons,List.range_succ_eq_map,List.all_cons,List.all_cons,List.all_map]
    show ((b::bs).getD 0 true&&_)=_
    rw [List.getD_cons_zero]
    congr 1
def zhj (K:PySem.W.Frag) (f:List Bool→Bool):List V→Hp→VK→Prop:=fun xs H Q=>∃a bs,xs=[.ref a]∧SqL K H a (bs.map V.bl)∧Q (.bl (f bs)) H
theorem ydL {P:Program} {w:World} {A:Around} {bs:List Bool}:TruthOf P w A (fun i v=>(bs.map Value.bool).toArray[i]?=some v) (fun i=>bs.getD i true):=by
  intro i v s Q E hv q
  have hv':bs[i]?.map Value.bool=some v:=by simpa using hv
  cases e:bs[i]? with
  | none=>rw [e] at hv';cases hv'
  | some b =>
    rw [e] at hv';cases hv'
    have e2:bs.getD i true=b:=by simp [List.getD,e]
    have q':Q (bs.getD i true) s:=q
    rw [e2] at q'
    exact wpAny_truthy_bool q'
theorem yfL (hc:X.calm=true):zbG X (.builtin "all") (zhj X.K fun bs=>bs.all id):=by
  intro pins s σ H xs us Q I r h
  obtain ⟨a,bs,rfl,ha,q⟩:=h
  obtain ⟨u,rfl,rx⟩:=zcv r
  cases rx
  obtain ⟨its,r1,p1,z1⟩:=I.list ha
  have e:=zcN r1
  subst e
  refine call_all_walk (wpAny_pyIter_list p1.isList ?_)
  have hh:X.A.in1.handled=none:=I.ok.hd hc
  have ne:a≠s.heap.objs.size:=fun z=>by obtain ⟨o,n,e,_⟩:=p1;have l:s.heap.objs.size≥Nat.succ a:=Heap.lt_size e;have z':@Eq Nat a s.heap.objs.size:=z;omega
  refine ⟨_,_,_,_,_,_,_,rfl,Walks.list hh s.heap.objs.size a ne _,⟨⟨_,Heap.get?_push_size _ rfl,rfl,rfl⟩,p1.isList.push _⟩,ydL,fun h' tk k=>?_⟩
  have I1:Inv X pins σ H { s with heap:=h',toks:=tk }:=I.kept fun b o e=>k b o (by simp only [List.mem_singleton];exact Nat.ne_of_lt (Heap.lt_size e)) (Heap.get?_push_of_some _ e)
  refine ⟨.bl _,H,I1,?_,q⟩
  show Value.bool _=Value.bool _
  congr 1
  have:=yfv bs
  simpa using this
def Itd (hi:Int) (n:Nat):It:=⟨fun i _=>i<n,fun i H x H'=>H'=H∧x = .int (hi-i),fun i _=>n≤i⟩
theorem zdE {P:Program} {w:World} {K:PySem.W.Frag} {tg:Expr} (it:Addr) (hi:Int) (n:Nat):Turn P w K tg (Itd hi n) [it] it (fun i h=>IsRangeIter h it (hi+(i:Nat)*(-1)) ((n:Int)-(i:Nat)) (-1)) where
  mem:=by simp
  obj:=fun i h st b hb=>by
    have e:b=it:=by simpa using hb
    subst e
    exact ⟨_,st,fun v z=>by have z':Data.fields _=Data.cell v:=z;cases z'⟩
  keep:=fun i h h' st k=>k it (by simp) _ st
  item:=by
    intro X hP hw hK hc i pins s σ H E I hf st hg
    subst hP hw hK
    obtain ⟨f0,f1,f2,f3,f4,f5⟩:=hf it (by simp)
    have W:=Walks.range (prog:=X.prog) (w:=X.w) (I.ok.hd hc) it hi (-1) n
    refine W.item i s _ _ hg st fun v h' tk hv st' kk=>?_
    obtain ⟨t,rfl⟩:=hv
    have I1:Inv X pins σ H { s with heap:=h',toks:=tk }:=I.turned (fun b o hb e=>kk b o (by simpa using hb) e) f0 f1 f3 f4 f5
    refine ⟨_,rfl,yfC (s:={ s with heap:=h',toks:=tk }) (n:="range_iterator") st' rfl rfl (by decide) ⟨.int (hi-i),H,I1,⟨t,?_⟩,⟨rfl,rfl⟩,st',fun b hb=>(hf b hb).1⟩⟩
    congr 1;omega
  done:=by
    intro X hP hw hK hc i pins s σ H E I hf st hg
    subst hP hw hK
    obtain ⟨f0,f1,f2,f3,f4,f5⟩:=hf it (by simp)
    exact wpAny_pyNext_range_end (I.ok.hd hc) st (by have:n≤i:=hg;omega) fun h' eb=>⟨rfl,I.turned (t':=s.toks) (fun b o hb e=>eb b o hb e) f0 f1 f3 f4 f5⟩
  self:=fun _ _ _ _ _ st h=>wpAny_pyIter_rangeiter st h
theorem ydo {hi:Int} {n:Nat}:Seqs (Itd hi n) n (fun _=>True) (fun i x H H'=>H'=H∧x = .int (hi-i)) :=
  ⟨fun i H hi _=>hi,fun H _=>Nat.le_refl _,fun i H x H' hi _ q=>q⟩
def zhi (ta:TA):TI:=fun σ H R=>ta σ H fun vs H1=>∃i j:Int,vs=[.int i,.int j,.int (-1)]∧(-(2^62)≤i∧i<2^62∧-(2^62)≤j∧j<2^62)∧R (Itd i (i-j).toNat) H1
theorem zgn {a b c:Expr} {ta:TA} {tg:Expr} {p pos:Pos} (hg:Gl X "range") (hm:X.mg "range"=none) (ha:PA X [a,b,c] ta) (hs:starEach [a,b,c] X.env=(false,eval a X.env)::starEach [b,c] X.env:=by rfl) (hs2:(backTo pos (starEach [b,c] X.env)).any (·.1)=false:=by rfl) :
    PI X tg (.Call (.Name "range" p) [a,b,c] [] pos) (zhi ta):=by
  intro pins s σ H R I h
  refine Call_ (ybu I hg hm boot_range (PyProof.Rows.callWith_type1 (thn (ha pos pins s σ H _ I h) fun us s1 ⟨vs,H1,I1,r1,q1⟩=>?_) hs hs2))
  obtain ⟨i,j,e,⟨b1,b2,b3,b4⟩,q⟩:=q1
  subst e
  cases r1 with
  | cons r rr =>
    cases rr with
    | cons r' rr =>
      cases rr with
      | cons r'' rr =>
        cases rr
        obtain ⟨t,rfl⟩:=r
        obtain ⟨t',rfl⟩:=r'
        obtain ⟨t'',rfl⟩:=r''
        refine call_range_3 (by decide) ?_ (.inl (PyProof.noPylong_small (by decide)))
        refine wpAny_pyIter_range (IsRange.new ..) (PySem.W.small_down b1 b2 b3 b4) ?_
        generalize hG:s1.heap.push { cls:=.type "range",data:=.fields #[.int i t,.int j t',.int (-1) t''] }=G
        have I2:Inv X pins σ H1 { s1 with heap:=G }:=I1.kept (t':=s1.toks) fun b o e=>hG ▸ Heap.get?_push_of_some _ e
        refine ⟨G.objs.size,[G.objs.size],_,_,H1,rfl,I2.kept (t':=s1.toks) fun b o e=>Heap.get?_push_of_some _ e,zdE _ i (i-j).toNat,?_,fun b hb=>?_,q⟩
        · have e1:i+((0:Nat):Int)*(-1)=i:=by simp
          have e2:(((i-j).toNat:Nat):Int)-((0:Nat):Int)=Builtin.Range.rangeSize i j (-1):=by rw [PySem.W.rangeSize_downNat];simp
          show IsRangeIter _ _ (i+((0:Nat):Int)*(-1)) ((((i-j).toNat:Nat):Int)-((0:Nat):Int)) (-1)
          rw [e1,e2]
          exact Heap.get?_push_size _ rfl
        · have e:b=G.objs.size:=by simpa using hb
          subst e
          exact I2.fpOk (Nat.le_refl _) (I2.hok.fresh (Nat.le_refl _))
def tRng (ta:TA):TE:=fun σ H Q=>ta σ H fun vs H1=>∃j:Int,vs=[.int j]∧∀p,H1 p=none→Q (.ref p) (upd H1 p (.rng 0 j))
theorem ydA {a:Expr} {ta:TA} {p pos:Pos} (hg:Gl X "range") (hm:X.mg "range"=none) (ha:PA X [a] ta) (hs:starEach [a] X.env=[(false,eval a X.env)]:=by rfl):PE X (.Call (.Name "range" p) [a] [] pos) (tRng ta):=by
  intro pins s σ H Q I h
  refine Call_ (ybu I hg hm boot_range (PyProof.Rows.callWith_type1 (thn (ha pos pins s σ H _ I h) fun us s1 ⟨vs,H1,I1,r1,q1⟩=>?_) hs rfl))
  obtain ⟨j,e,q⟩:=q1
  subst e
  cases r1 with
  | cons r rr =>
    cases rr
    obtain ⟨t,rfl⟩:=r
    exact call_range_1 ⟨.ref _,_,I1.laid (o:=.rng 0 j) (fun b o e=>Heap.get?_push_of_some _ e) (Nat.le_refl _) ⟨_,_,_,Heap.get?_push_size _ rfl⟩,rfl,q _ I1.fresh⟩
def intsFrom (lo:Int) (n:Nat):List V:=(List.range n).map fun (i:Nat)=>V.int (lo+(i:Int))
theorem zcw:∀ {xs:List V} {us:List Value},xs.length=us.length→(∀(i:Nat) x u,xs[i]?=some x→us[i]?=some u→RelV x u)→Vals xs us
  | [],[],_,_=>.nil
  | [],_::_,h,_=>by simp at h
  | _::_,[],h,_=>by simp at h
  | x::xs,u::us,h,g=>.cons (g 0 x u rfl rfl) (zcw (by simpa using h) fun i y v e1 e2=>g (i+1) y v (by simpa using e1) (by simpa using e2))
theorem ydw {lo:Int} {n:Nat} {acc:Array Value} (h:ItemsOf (fun i v=>∃t,v = .int (lo+i*1) t) acc n):Vals (intsFrom lo n) acc.toList:=by
  refine zcw (by simp [intsFrom,h.1]) fun i x u e1 e2=>?_
  obtain ⟨t,rfl⟩:=h.2 i u (by simpa using e2)
  have:x=V.int (lo+i):=by
    unfold intsFrom at e1
    rw [List.getElem?_map] at e1
    cases hr:(List.range n)[i]? with
    | none=>rw [hr] at e1;cases e1
    | some j =>
      rw [hr] at e1
      have:j=i:=by
        obtain ⟨h1,h2⟩:=List.getElem?_eq_some_iff.mp hr
        simpa using h2.symm
      subst this
      exact (Option.some.inj e1).symm
  subst this
  exact ⟨t,by simp⟩
theorem ycS (hc:X.calm=true):zbG X (.type "list") (fun xs H Q=>∃p lo hi,xs=[.ref p]∧H p=some (.rng lo hi)∧(-(2^62)≤lo∧lo<2^62∧-(2^62)≤hi∧hi<2^62)∧(hi-lo).toNat≤sizeLine∧∀l,H l=none→Q (.ref l) (upd H l (.lst (intsFrom lo (hi-lo).toNat)))):=by
  intro pins s σ H xs us Q I r h
  obtain ⟨p,lo,hi,rfl,hp,⟨b1,b2,b3,b4⟩,hz,q⟩:=h
  obtain ⟨u,rfl,rx⟩:=zcv r
  cases rx
  obtain ⟨t,u,v,e⟩:=I.hok p _ hp
  refine call_list_range (n:=(hi-lo).toNat) (I.ok.hd hc) e (small_one b1 b2 b3 b4) (by rw [rangeSize_one];split <;> omega) (by have:=sizeLine_eq;omega) fun h' tk acc c k ho hi'=>?_
  have rv:=ydw hi'
  refine ⟨.ref _,_,I.laid (t':=tk) k (Nat.le_refl _) (show zaW X.prog X.w _ h' _ (.lst (intsFrom lo (hi-lo).toNat)) from ⟨?_,acc.toList,c,rv,by simpa using ho⟩),rfl,q _ I.fresh⟩
  simpa [intsFrom] using hz
def Has (P:Program) (w:World) (K:PySem.W.Frag) (mg:Str→Option Value) (base:Heap) (n:Nat) (x:Str) (ps:List Str) (sp:Sp):Prop :=
  ∃f fd,FnOk P w K mg base CX0 n f fd ps sp∧zdT K fd ps []∧PySem.W.keepIn K (.ref f)=true∧mg x=some (.ref f)
theorem yad {n k:Nat} {x:Str} {ps:List Str} {sp:Sp} {e:Expr} {es:List Expr} {t:TA} {p pos:Pos} (h:Has X.prog X.w X.K X.mg X.base n x ps sp) (hr:Room k X.A) (hle:n≤k) (hg:Gl X x) (ha:PA X (e::es) t)
    (hdb:(x==("__debug__":Str))=false:=by decide) (he:starEach (e::es) X.env=(false,eval e X.env)::starEach es X.env:=by rfl) (hpl:(backTo pos (starEach es X.env)).any (·.1)=false:=by rfl) :
    PE X (.Call (.Name x p) (e::es) [] pos) (ygk sp [] E0 t):=by
  obtain ⟨f,fd,F,B,kp,m⟩:=h
  exact zgG F (hr.mono hle) hg m kp B .nil yhi ha hdb he hpl
theorem zaN {c:TT} {tb:TS} {D:Ends} {σ:St} {H:Hp} (Pv:St→Hp→Prop) (μ:St→Hp→Nat) (h0:Pv σ H)
    (hs:∀σ H,Pv σ H→c σ H fun b H1=>if b=true then ∃N:St→Hp→Prop,(∀σ' H',N σ' H'→∃m',m' < μ σ H∧m'=μ σ' H'∧Pv σ' H')∧tb { D with nx:=N,ct:=N,bk:=D.nx } σ H1 else D.nx σ H1):ygd c tb D σ H:=by
  refine ⟨fun m σ H=>m=μ σ H∧Pv σ H,⟨_,rfl,h0⟩,?_⟩
  rintro m σ H ⟨rfl,p⟩
  exact hs σ H p
end
end L2
end
section
-- text: ExtG
namespace L2
open PySem PySem.Spec PyProof.Rows
section
variable {X:Cx}
theorem ybz:bootBuiltins "list"=some (.type "list"):=by decide +kernel
theorem zav:bootBuiltins "tuple"=some (.type "tuple"):=by decide +kernel
theorem zbM:bootBuiltins "int"=some (.type "int"):=by decide +kernel
theorem ycm:bootBuiltins "abs"=some (.builtin "abs"):=by decide +kernel
theorem ydU:bootBuiltins "min"=some (.builtin "min"):=by decide +kernel
theorem zcs:bootBuiltins "max"=some (.builtin "max"):=by decide +kernel
theorem yeo (i:Int) (t:Tok):RelV (.int i) (.int i t):=⟨t,rfl⟩
theorem yfe {es:List Expr} {k:Nat} {t:TGs} {n:Nat} {pos:Pos} {K:PySem.W.Frag} (hK:X.K=K) (hc:X.calm=true) (h:PGs X es t)
    (hn:(assignEach es X.env).length=n:=by rfl) (hst:(assignEach es X.env).findIdx? (·.1)=none:=by rfl):PG X (.Tuple es k pos) (gTup K n t):=hK ▸ ybe hc h hn hst
end
end L2
end
section
-- text: ExtH
namespace L2
open PySem PySem.Spec PyProof.Rows
theorem ze6 {prog:Program} {w:World} {A:Around} {E:Value→Shared→Prop} {s:Shared} {a:Addr} {xs:Array Value} {k:Nat} {sl:Array (Option Value)} {u:Tok} {Q:Value→Shared→Prop}
    (hx:s.heap.get? a=some { cls:=.type "list",dict:=none,data:=.seq xs k,slots:=sl }) (hA:A.handled=none)
    (h:∀h' tk e,Heap.NewExcOf s.heap h' e "AttributeError"→E (.ref e) { s with heap:=h',toks:=tk }) :
    wpAny (model prog w) A (getAttrBy (.ref a) (.str "keys" u) false) Q E s:=by
  have hmiss:typeLookup (.type "list") "keys"=pure none:=by rw [typeLookup_type,builtinLookup_eq_fast];kernel_rfl
  obtain ⟨hp,g,d,tk,os⟩:=s
  have hT:∀tk',(⟨hp,g,d,tk',os⟩:Shared).TypeIs (.ref a) "list":=fun _=>⟨_,hx,rfl⟩
  have f1:=sub_AttributeError
  have f3:=F.slot_list_getattribute.lookup
  have f4:=F.slot_list_getattribute.bind (.ref a)
  have f5:=am_list_getattr_none
  unfold getAttrBy
  repeat (any_goals (first|assumption|exact hT _|((with_reducible show wpAny _ _ (call (Value.builtin "list.__getattribute__") _ _) _ _ _);refine call_meets F.slot_list_getattribute (hT _) am_entry_list_getattribute (F.args_list_getattribute_2 _ _) (meets_getattribute_miss_list a xs k sl "keys" _ hmiss (by decide +kernel)) ⟨hx,hA,fun h' tk' e hx'=>?_⟩)|wp_step))
  obtain ⟨t',u',he⟩:=hx'.there
  show wpAny _ _ (getattributeRaised _ _ _ _ _ _ _) _ _ _
  unfold getattributeRaised
  repeat (any_goals (first|assumption|wp_step))
  exact h _ _ _ hx'.of
theorem zeS {prog:Program} {w:World} {A:Around} {E:Value→Shared→Prop} {s:Shared} {a:Addr} {xs:Array Value} {k:Nat} {sl:Array (Option Value)} {Q:Option Value→Shared→Prop}
    (hx:s.heap.get? a=some { cls:=.type "list",dict:=none,data:=.seq xs k,slots:=sl }) (hA:A.handled=none)
    (h:∀h' tk,(∀b o,s.heap.get? b=some o→h'.get? b=some o)→Q none { s with heap:=h',toks:=tk }) :
    wpAny (model prog w) A (getAttr? (.ref a) "keys") Q E s:=by
  have f1:=sub_AttributeError
  unfold getAttr? getAttrBy?
  refine wpAny_bind (wpAny_mkText ?_)
  refine wpAny_bind ?_
  refine wpAny_attempt ?_
  refine ze6 (by exact hx) hA fun h' tk e ne=>?_
  obtain ⟨oe,_,he,hc,_⟩:=ne.there
  show wpAny _ _ (isInstance (.ref e) (.type "AttributeError") >>= _) _ _ _
  refine wpAny_bind (wpAny_isInstance ⟨_,he,hc⟩ f1 ?_)
  exact wpAny_pure (h _ _ ne.keeps)
theorem zbz:entryFor table "dict.update.loop"=some Builtin.«dict.update.loop»:=entryFor_of_fast (by kernel_rfl)
theorem zaT:plainId "dict.update.loop"=true:=by decide +kernel
section
variable {prog:Program} {w:World} {K:Type} [DecidableEq K] {knd:KeyKind prog w K} {A:Around} {R:Result→Shared→Prop} {I ax d:Addr}
theorem zeU (hh:A.in1.handled=none) (items:Array Value) (more:List (K×Value)) (hne:ax≠I) (hdI:d≠I) (hda:d≠ax) (hsz:items.size≤sizeLine) (hml:more.length=items.size)
    (tp:Nat→Addr) (hit:∀j,j<items.size→items[j]?=some (.ref (tp j))) (htd:∀j,j<items.size→tp j≠d∧tp j≠I) :
    ∀(k i:Nat) (s:Shared) (t:Tok) (kvs:List (K×Value)),items.size-i=k→i≤items.size→s.heap.IsListIter I ax i∧s.heap.IsList ax items→s.heap.DictOf knd d kvs→kvs.length≤i→
    (∀j kv,more[j]?=some kv→∃key,knd.is kv.1 key=true∧s.heap.IsTuple (tp j) #[key,kv.2])→
    (∀s',s'.heap.DictOf knd d (merged kvs (more.drop i))→(∀b o,b≠I→b≠d→s.heap.get? b=some o→s'.heap.get? b=some o)→(∃h' tk,s'={ s with heap:=h',toks:=tk })→R (.ok (.ret .none)) s')→
    codeAny (model prog w) A (.builtin "dict.update.loop" ⟨[.ref d,.ref I,.int (i:Int) t,.none],[]⟩) R s:=by
  have W:=Walks.list (prog:=prog) (w:=w) hh I ax hne items
  intro k
  induction k with
  | zero =>
    intro i s t kvs hk hi hst hd hkl hpairs hR
    have hin:i=items.size:=by omega
    subst hin
    refine codeAny_builtin zbz ?_
    rw [Around.under_plainId zaT _]
    show wpAny _ A.in1 (pyNext (.ref I) >>= _) _ _ s
    refine wpAny_bind (W.done s _ _ hst fun h' tk hk'=>?_)
    have hm:more.drop items.size=[]:=List.drop_of_length_le (by omega)
    rw [hm] at hR
    have hd':h'.DictOf knd d kvs:=hd.at fun o e=>hk' d o (by simp [hdI]) e
    refine wpAny_pure (hR { s with heap:=h',toks:=tk } hd' (fun b o h1 h2 e=>hk' b o (by simp [h1]) e) ⟨_,_,rfl⟩)
  | succ k ih =>
    intro i s t kvs hk hi hst hd hkl hpairs hR
    have hlt:i<items.size:=by omega
    refine codeAny_builtin zbz ?_
    rw [Around.under_plainId zaT _]
    show wpAny _ A.in1 (pyNext (.ref I) >>= _) _ _ s
    refine wpAny_bind (W.item i s _ _ hlt hst fun v h' tk hP hst' hk'=>?_)
    rw [hit i hlt] at hP
    cases hP
    obtain ⟨kv,hkv⟩:∃kv,more[i]?=some kv:=⟨more[i]'(by omega),List.getElem?_eq_getElem (by omega)⟩
    obtain ⟨key,hkey,htup⟩:=hpairs i kv hkv
    have htup':h'.IsTuple (tp i) #[key,kv.2]:=htup.at fun o e=>hk' _ o (by simp [(htd i hlt).2]) e
    obtain ⟨ot,hot,hoc,nn,hod⟩:=id htup'
    have hd':h'.DictOf knd d kvs:=hd.at fun o e=>hk' d o (by simp [hdI]) e
    refine wpAny_bind (wpAny_holding ?_)
    refine wpAny_bind (wpAny_tryCatch ?_)
    unfold Builtin.Dict.pairItems
    refine wpAny_bind (wpAny_typeOf ⟨_,hot,hoc⟩ ?_)
    rw [if_pos (by decide)]
    refine wpAny_bind (wpAny_seqItems hot hod ?_)
    refine wpAny_pure ?_
    show wpAny _ A.in1 (holding [key,kv.2] (dictSet d key kv.2)) _ _ _
    refine wpAny_holding (wpAny_dictSet_pairs (hsz:=by omega) hkey hd' fun h2 hd2 hs2=>?_)
    have step:more.drop i=kv::more.drop (i+1):=by
      rw [List.drop_eq_getElem_cons (by omega)]
      congr 1
      exact Option.some.inj ((List.getElem?_eq_getElem (by omega)).symm.trans hkv)
    refine wpAny_pure ⟨plainId_quiet zaT _,ih (i+1) _ _ (stored kvs kv.1 kv.2) (by omega) hlt ?_ hd2 ?_ (fun j kv' hj=>?_) fun s' h1 h2' h3=>hR s' ?_ (fun b o n1 n2 e=>h2' b o n1 n2 (hs2.extBut b o n2 (hk' b o (by simp [n1]) e))) ?_⟩
    · exact W.frame _ _ _ hst' fun b hb o e=>hs2.extBut b o (by simp only [List.mem_cons,List.not_mem_nil,or_false] at hb;rcases hb with rfl|rfl;exact Ne.symm hdI;exact Ne.symm hda) e
    · have:=stored_length_le kvs kv.1 kv.2;omega
    · obtain ⟨key',a1,a2⟩:=hpairs j kv' hj
      have hj':j<items.size:=by rw [←hml];exact (List.getElem?_eq_some_iff.mp hj).1
      exact ⟨key',a1,(a2.at fun o e=>hk' _ o (by simp [(htd j hj').2]) e).at fun o e=>hs2.extBut _ o (htd j hj').1 e⟩
    · rw [step];exact h1
    · obtain ⟨h4,tk4,rfl⟩:=h3;exact ⟨_,_,rfl⟩
end
section
variable {X:Cx}
theorem Vals.getR:∀ {xs:List V} {us:List Value},Vals xs us→∀(j:Nat) x u,xs[j]?=some x→us[j]?=some u→RelV x u
  | _,_,.nil,j,x,u,e,_=>by simp at e
  | _::_,_::_,.cons r t,0,x,u,e1,e2=>by simp at e1 e2;subst e1 e2;exact r
  | _::_,_::_,.cons r t,j+1,x,u,e1,e2=>Vals.getR t j x u (by simpa using e1) (by simpa using e2)
def ygv:List V→Hp→VK→Prop:=fun xs H Q=>∃(a:Addr) (ts:List Addr) (kvs:List (Key×V)),xs=[.ref a]∧H a=some (.lst (ts.map V.ref))∧ts.length=kvs.length∧kvs.length≤sizeLine∧
  (∀(j:Nat) t kv,ts[j]?=some t→kvs[j]?=some kv→H t=some (.tup [kV kv.1,kv.2]))∧(kvs.map (·.1)).Nodup∧∀D,H D=none→Q (.ref D) (upd H D (.dK kvs))
theorem ycR {P:Program} {w:World} {pins:List (Addr×Obj)} {σ:St} {H:Hp} {s:Shared} (I:Inv X pins σ H s):∀(ts:List Addr) (kvs:List (Key×V)),ts.length=kvs.length→(∀(j:Nat) t kv,ts[j]?=some t→kvs[j]?=some kv→H t=some (.tup [kV kv.1,kv.2]))→
    ∃vs:List (Key×Value),KV kvs vs∧vs.length=ts.length∧∀(j:Nat) kv t,vs[j]?=some kv→ts[j]?=some t→∃key,(yaF P w).is kv.1 key=true∧s.heap.IsTuple t #[key,kv.2]
  | [],[],_,_=>⟨[],.nil,rfl,fun j kv t e=>by simp at e⟩
  | [],_::_,h,_=>by simp at h
  | _::_,[],h,_=>by simp at h
  | t::ts,kv::kvs,h,hp=>by
    obtain ⟨vs,h1,h2,h3⟩:=ycR I ts kvs (by simpa using h) fun j t' kv' e1 e2=>hp (j+1) t' kv' (by simpa using e1) (by simpa using e2)
    obtain ⟨its,r,p,_⟩:=I.tuple (SqT.of (hp 0 t kv rfl rfl))
    cases r with
    | cons ra rr =>
      cases rr with
      | cons rb rz =>
        cases rz
        rename_i ka va
        refine ⟨(kv.1,va)::vs,.cons ⟨rfl,rb⟩ h1,by simp [h2],fun j kv' t' e1 e2=>?_⟩
        cases j with
        | zero =>
          simp at e1 e2
          subst e1 e2
          exact ⟨ka,zfU ra,p⟩
        | succ j=>exact h3 j kv' t' (by simpa using e1) (by simpa using e2)
theorem ycy (hc:X.calm=true):zbG X (.type "dict") ygv:=by
  intro pins s σ H xs us Q I r h
  obtain ⟨a,ts,kvs,rfl,ha,hl,hsz,hp,hn,q⟩:=h
  obtain ⟨u,rfl,rx⟩:=zcv r
  cases rx
  obtain ⟨its,r1,p1,z1⟩:=I.list (SqL.of ha)
  refine callType_codes (Q₁:=fun obj s₁=>obj = .ref s.heap.objs.size∧s₁={ s with heap:=s.heap.push { cls:=.type "dict",data:=.dict #[] } }) F.kt_called_dict (F.kt_typeCall_dict_1 _) F.entry_dict_init (kt_code_dict_new _ ⟨rfl,rfl⟩) ?_
  rintro obj s₁ ⟨rfl,rfl⟩
  have hnew:(s.heap.push { cls:=.type "dict",data:=.dict #[] }).DictOf (yaF X.prog X.w) s.heap.objs.size []:=Heap.DictOf.new s.heap
  refine ⟨hnew.typeIs,F.args_dict_init_2 _ _,?_⟩
  unfold Builtin.«dict.__init__»
  refine wpAny_bind ?_
  unfold Builtin.Dict.selfAndRest
  refine wpAny_bind (wpAny_notOrdered_dict hnew.typeIs ?_)
  show wpAny _ _ (pure (s.heap.objs.size,[Value.ref a])) _ _ _
  refine wpAny_pure ?_
  show wpAny _ _ (Builtin.Dict.updateFrom "dict.__init__" s.heap.objs.size (.ref a) [] .none) _ _ _
  unfold Builtin.Dict.updateFrom
  have hne:∀b o,s.heap.get? b=some o→b≠s.heap.objs.size:=fun b o e z=>by have l:s.heap.objs.size≥Nat.succ b:=Heap.lt_size e;have z':@Eq Nat b s.heap.objs.size:=z;omega
  obtain ⟨vs,hKV,hvl,hvs⟩:=ycR (P:=X.prog) (w:=X.w) I ts kvs hl hp
  have hA:X.A.in1.in1.handled=none:=I.ok.hd hc
  obtain ⟨⟨ca,da,dta,sla⟩,na,hoa,hca,hda,hdt⟩:=id p1
  dsimp only at hca hda hdt
  subst hca hda hdt
  have e1:(s.heap.push { cls:=.type "dict",data:=.dict #[] }).get? a=some { cls:=.type "list",dict:=none,data:=.seq its.toArray na,slots:=sla }:=Heap.get?_push_of_some _ hoa
  refine wpAny_bind (wpAny_typeOf ⟨_,e1,rfl⟩ ?_)
  dsimp only
  rw [if_pos (by decide)]
  refine wpAny_bind (zeS e1 hA fun h1 tk1 hk1=>?_)
  rw [if_pos (show (none:Option Value).isNone=true from rfl)]
  refine wpAny_bind (wpAny_rule ?_)
  have e2:h1.IsList a its.toArray:=⟨_,hk1 _ _ e1,rfl,na,rfl⟩
  refine wpAny_bind (wpAny_pyIter_list e2 ?_)
  have hN:s.heap.objs.size<h1.objs.size:=Heap.lt_size (hk1 _ _ (Heap.get?_push_size _ rfl))
  have hI:∀b o,h1.get? b=some o→b≠h1.objs.size:=fun b o e z=>by have l:h1.objs.size≥Nat.succ b:=Heap.lt_size e;have z':@Eq Nat b h1.objs.size:=z;omega
  have kp:∀b o,s.heap.get? b=some o→(h1.push { cls:=.type "list_iterator",data:=.fields #[.ref a,.int 0 0] }).get? b=some o:=fun b o e=>Heap.get?_push_of_some _ (hk1 _ _ (Heap.get?_push_of_some _ e))
  have hr1:=r1.length
  have hlen:its.toArray.size=ts.length:=by rw [List.size_toArray,←hr1,List.length_map]
  have hti:∀j,j<its.toArray.size→its.toArray[j]?=some (.ref (ts.getD j 0)):=by
    intro j hj
    rw [hlen] at hj
    have hj2:j<its.length:=by rw [←hr1,List.length_map];exact hj
    rw [List.getElem?_toArray,List.getElem?_eq_getElem hj2]
    have g:=Vals.getR r1 j (.ref (ts.getD j 0)) its[j] (by rw [List.getElem?_map,List.getElem?_eq_getElem hj];simp [List.getD,hj]) (List.getElem?_eq_getElem hj2)
    exact congrArg some g
  have htu:∀j,j<its.toArray.size→∃o,s.heap.get? (ts.getD j 0)=some o:=by
    intro j hj
    rw [hlen] at hj
    have hj2:j<vs.length:=by rw [hvl];exact hj
    obtain ⟨key,_,o,ho,_⟩:=hvs j vs[j] (ts.getD j 0) (List.getElem?_eq_getElem hj2) (by simp [List.getD,hj])
    exact ⟨o,ho⟩
  refine wpAny_pure ⟨plainId_quiet zaT _,?_⟩
  refine zeU (knd:=yaF X.prog X.w) (A:=X.A.in1) (I:=h1.objs.size) (ax:=a) (d:=s.heap.objs.size) hA its.toArray vs (hI _ _ (hk1 _ _ e1)) (Nat.ne_of_lt hN) (Ne.symm (hne _ _ hoa)) (by rw [hlen,hl];exact hsz) (by rw [hvl,hlen]) (fun j=>ts.getD j 0) hti
    (fun j hj=>by obtain ⟨o,ho⟩:=htu j hj;exact ⟨hne _ _ ho,hI _ _ (hk1 _ _ (Heap.get?_push_of_some _ ho))⟩) _ 0 _ _ [] rfl (Nat.zero_le _) ⟨⟨_,Heap.get?_push_size _ rfl,rfl,rfl⟩,e2.push _⟩ ?_ (Nat.le_refl _) ?_ ?_
  · exact (hnew.at fun o e=>hk1 _ _ e).push _
  · intro j kv hj
    have hj2:j<ts.length:=by rw [←hvl];exact (List.getElem?_eq_some_iff.mp hj).1
    obtain ⟨key,k1,k2⟩:=hvs j kv (ts.getD j 0) hj (by simp [List.getD,hj2])
    exact ⟨key,k1,k2.at fun o e=>kp _ _ e⟩
  · rintro s' hd hk ⟨h',tk,rfl⟩
    have hkeys:vs.map (·.1)=kvs.map (·.1):=(KV.keys hKV).symm
    rw [List.drop_zero,merged_nil_of_nodup vs (by rw [hkeys];exact hn)] at hd
    refine ⟨rfl,.ref s.heap.objs.size,_,I.laid (a:=s.heap.objs.size) (o:=.dK kvs) (t':=tk) (h':=h') (fun b o e=>hk b o (hI _ _ (hk1 _ _ (Heap.get?_push_of_some _ e))) (hne _ _ e) (kp _ _ e)) (Nat.le_refl _) ⟨hsz,beq_eq_false_iff_ne.mpr (Ne.symm (Nat.ne_of_lt I.big)),vs,hKV,hd⟩,rfl,q _ (I.hok.fresh (Nat.le_refl _))⟩
end
end L2
end
section
-- text: ExtI
namespace L2
open PySem PySem.Spec PyProof.Rows
section
variable {X:Cx}
theorem ye3 {A:Around} {s:Shared}:∀ {xs:List Int} {us:List Value},Vals (xs.map V.int) us→∀ {ys:List Int} {vs:List Value},Vals (ys.map V.int) vs→∀j (h1:j<us.toArray.size) (h2:j<vs.toArray.size),SeqAt.EqAt A s us.toArray[j] vs.toArray[j] (xs.getD j 0==ys.getD j 0):=by
  intro xs us r1 ys vs r2 j h1 h2
  have l1:=r1.length
  have l2:=r2.length
  rw [List.length_map] at l1 l2
  rw [List.size_toArray] at h1 h2
  have g1:=Vals.getR r1 j (.int (xs.getD j 0)) us[j] (by rw [List.getElem?_map,List.getElem?_eq_getElem (by omega)];simp [List.getD,show j<xs.length by omega]) (List.getElem?_eq_getElem h1)
  have g2:=Vals.getR r2 j (.int (ys.getD j 0)) vs[j] (by rw [List.getElem?_map,List.getElem?_eq_getElem (by omega)];simp [List.getD,show j<ys.length by omega]) (List.getElem?_eq_getElem h2)
  obtain ⟨t1,e1⟩:=g1
  obtain ⟨t2,e2⟩:=g2
  rw [List.getElem_toArray,List.getElem_toArray,e1,e2]
  exact SeqAt.EqAt.int_int _ t1 _ t2
theorem yfx {xs ys:List Int}:((List.range (min xs.length ys.length)).all (fun j=>xs.getD j 0==ys.getD j 0)&&xs.length==ys.length)=decide (xs=ys):=by
  rw [Bool.eq_iff_iff,Bool.and_eq_true,List.all_eq_true,decide_eq_true_iff,beq_iff_eq]
  constructor
  · rintro ⟨h1,h2⟩
    refine List.ext_getElem h2 fun j a b=>?_
    have:=h1 j (List.mem_range.mpr (by omega))
    simpa [List.getD,a,b] using this
  · rintro rfl
    exact ⟨fun j _=>by simp,rfl⟩
def rEqT (K:PySem.W.Frag) (neg:Bool):R2:=fun x y H Q=>∃(a b:Addr) (xs ys:List Int),x = .ref a∧y = .ref b∧SqT K H a (xs.map V.int)∧SqT K H b (ys.map V.int)∧Q (.bl (if neg then !decide (xs=ys) else decide (xs=ys))) H
theorem zg1 (hu:X.A.units<cLine):OpR X (compareOp .Eq) (rEqT X.K false):=by
  intro pins s σ H x y v u Q I rx ry h
  obtain ⟨a,b,xs,ys,rfl,rfl,ha,hb,q⟩:=h
  cases rx;cases ry
  obtain ⟨us,r1,p1,z1⟩:=I.tuple ha
  obtain ⟨vs,r2,p2,z2⟩:=I.tuple hb
  refine SeqAt.eq_tupleAt p1 p2 hu (ye3 r1 r2) ?_
  have l1:=r1.length
  have l2:=r2.length
  rw [List.length_map] at l1 l2
  rw [List.size_toArray,List.size_toArray,←l1,←l2,yfx]
  exact ⟨.bl _,H,I,rfl,q⟩
end
end L2
end
section
-- text: ExtJ
namespace L2
open PySem PySem.Spec PyProof.Rows
section
variable {X:Cx} {pos:Pos}
def yhj (i j k:Nat) (ta:TA):TS:=fun D σ H=>ta σ H fun vs H1=>∃u v w,vs=[u,v,w]∧D.nx (((σ.set i (some u)).set j (some v)).set k (some w)) H1
theorem zfr {i j k:Nat} {x y z:Str} {a b c:Expr} {ta:TA} {px py pz pt:Pos} {kt k2 pt2} (hc:X.calm=true) (hN:X.N.Nodup) (hi:X.N[i]?=some x) (hj:X.N[j]?=some y) (hk:X.N[k]?=some z) (hij:i≠j∧i≠k∧j≠k)
    (hx:X.env.scope.names.lookup x=some .local) (hy:X.env.scope.names.lookup y=some .local) (hz:X.env.scope.names.lookup z=some .local) (ha:PA X [a,b,c] ta)
    (hw:swappedStores [.Tuple [.Name x px,.Name y py,.Name z pz] kt pt] (.Tuple [a,b,c] k2 pt2) X.env=pure (some [x,y,z]))
    (hs:swapsWithSole [.Tuple [.Name x px,.Name y py,.Name z pz] kt pt] (.Tuple [a,b,c] k2 pt2) pos.line X.env=pure false:=by rfl) :
    PS X (.Assign [.Tuple [.Name x px,.Name y py,.Name z pz] kt pt] (.Tuple [a,b,c] k2 pt2) pos) (yhj i j k ta):=by
  intro pins s σ H D I h
  rw [exec_Assign_arm]
  refine wpAny_bind (wpAny_standAt ?_)
  rw [hs]
  refine wpAny_bind (wpAny_pure ?_)
  rw [if_neg (by decide)]
  refine wpAny_bind (Tuple_ (thn (ha _ pins s σ H _ I h) fun us s1 ⟨vs,H1,I1,r1,q1⟩=>?_))
  obtain ⟨v1,v2,v3,e1,q1⟩:=q1
  subst e1
  obtain ⟨u1,u2,u3,rfl,r1',r2',r3'⟩:∃u1 u2 u3,us=[u1,u2,u3]∧RelV v1 u1∧RelV v2 u2∧RelV v3 u3:=by
    cases r1 with
    | cons p q =>
      cases q with
      | cons p' q' =>
        cases q' with
        | cons p'' q'' =>
          cases q''
          exact ⟨_,_,_,rfl,p,p',p''⟩
  refine wpAny_newObj_type ?_ (by show 3≤sizeLine;decide)
  have I2:Inv X pins σ H1 { s1 with heap:=s1.heap.push { cls:=.type "tuple",data:=.seq [u1,u2,u3].toArray } }:=I1.kept (t':=s1.toks) fun b o e=>Heap.get?_push_of_some _ e
  rw [hw]
  refine wpAny_bind (wpAny_pure ?_)
  show wpAny (model X.prog X.w) X.A (do rule "assign.swapped-stores";let items ←unpackItems (.ref s1.heap.objs.size) 3 none;assignInOrder [fun v=>bindName X.env z v,fun v=>bindName X.env y v,fun v=>bindName X.env x v] items.reverse;pure Flow.next) _ _ _
  refine wpAny_bind (wpAny_rule (wpAny_bind (unpackItems_tuple (items:=#[u1,u2,u3]) (I.ok.hd hc) (IsTup.new s1.heap _) fun h' hx'=>?_)))
  have I3:=I2.kept (h':=h') (t':=s1.toks) fun b o e=>hx' b o (Nat.ne_of_lt (Heap.lt_size e)) e
  show wpAny _ _ (assignInOrder [fun v=>bindName X.env z v,fun v=>bindName X.env y v,fun v=>bindName X.env x v] [u3,u2,u1] >>= fun _=>pure Flow.next) _ _ _
  refine wpAny_bind (assignInOrder_cons (wpAny_bindName (zaY I3 hN hk (.inl hz) r3' (fun s2 I4=>?_) (.inr hz))))
  refine assignInOrder_cons (wpAny_bindName (zaY I4 hN hj (.inl hy) r2' (fun s2 I5=>?_) (.inr hy)))
  refine assignInOrder_cons (wpAny_bindName (zaY I5 hN hi (.inl hx) r1' (fun s3 I6=>assignInOrder_nil (wpAny_pure ?_)) (.inr hx)))
  have e:((σ.set k (some v3)).set j (some v2)).set i (some v1)=((σ.set i (some v1)).set j (some v2)).set k (some v3):=by
    rw [List.set_comm (some v3) (some v2) (Ne.symm hij.2.2),List.set_comm (some v3) (some v1) (Ne.symm hij.2.1),List.set_comm (some v2) (some v1) (Ne.symm hij.1)]
  rw [e] at I6
  exact ⟨_,H1,I6,q1⟩
section
variable {K:PySem.W.Frag}
theorem ydV (h:X.K=K):IxR X (rIxT K):=h ▸ yau
theorem yf3 (h:X.K=K):IxR X (rIxL K):=h ▸ yan
end
end
end L2
end
section
-- text: ExtK
namespace L2
open PySem PySem.Spec PyProof.Rows
open MeetsSeq MeetsSeq2 MeetsSeq3
theorem zca:fillsNumberSlot (.type "tuple") "mul"=pure false :=
  PySem.fillsNumberSlot_seq (id:="tuple.__mul__") (r:=some (.builtin "tuple.__rmul__")) PySem.F.slot_tuple_mul.lookup (by decide +kernel) PySem.F.slot_tuple_rmul.lookup (by decide +kernel)
theorem ydu:seqRepeat? (.type "tuple")=pure (some (.builtin "tuple.__mul__")):=by
  unfold seqRepeat?
  rw [PySem.seqSlot_of (T:="tuple") (name:="__mul__") (id:="tuple.__mul__") PySem.F.slot_tuple_mul.lookup (by decide +kernel),PySem.seqSlot_of (T:="tuple") (name:="__rmul__") (id:="tuple.__rmul__") PySem.F.slot_tuple_rmul.lookup (by decide +kernel)]
  rfl
theorem ycF (a:Int) (t:Tok) (l:Addr) (items:Array Value) (n:Nat) (dd:Option Addr) (sl:Array (Option Value)) :
    Meets (Builtin.«int.__rmul__» ⟨[.int a t,.ref l],[]⟩) (fun _ R s=>s.heap.get? l=some { cls:=.type "tuple",dict:=dd,data:=.seq items n,slots:=sl }∧R (.ok (.ret Value.notImplemented)) s) :=
  .of_wp fun prog w A R s h=>by obtain ⟨hp,g,d,tk,os⟩:=s;obtain ⟨hl,h⟩:=h;wp_walk;exact ⟨_,rfl,h⟩
theorem zd6 (l:Addr) (items:Array Value) (n:Nat) (dd:Option Addr) (sl:Array (Option Value)) (u:Tok) :
    Meets (Builtin.«tuple.__mul__» ⟨[.ref l,.int 1 u],[]⟩) (fun _ R s=>s.heap.get? l=some { cls:=.type "tuple",dict:=dd,data:=.seq items n,slots:=sl }∧R (.ok (.ret (.ref l))) s) :=
  .of_wp fun prog w A R s h=>by
    obtain ⟨hp,g,d,tk,os⟩:=s;obtain ⟨hl,h⟩:=h
    wp_walk
    exact ⟨_,rfl,h⟩
theorem yd0 (l:Addr) (items:Array Value) (n:Nat) (dd:Option Addr) (sl:Array (Option Value)) (u:Tok) (hne:items.isEmpty=false) :
    Meets (Builtin.«tuple.__mul__» ⟨[.ref l,.int 0 u],[]⟩) (fun _ R s=>s.heap.get? l=some { cls:=.type "tuple",dict:=dd,data:=.seq items n,slots:=sl }∧R (.ok (.ret (.ref s.heap.objs.size))) { s with heap:=s.heap.push { cls:=.type "tuple",data:=.seq #[] } }) :=
  .of_wp fun prog w A R s h=>by
    obtain ⟨hp,g,d,tk,os⟩:=s;obtain ⟨hl,h⟩:=h
    have h0:(items.isEmpty||((0:Int)==1))=false:=by rw [hne];rfl
    have h1:(decide ((0:Int)≤0)||items.isEmpty)=true:=rfl
    wp_walk
    exact ⟨_,rfl,h⟩
theorem ydS (l:Addr) (items:Array Value) (n:Nat) (dd:Option Addr) (sl:Array (Option Value)) (x:Int) (u:Tok) (hne:items.isEmpty=false) (h2:2≤x) (h3:x<2^63) (hz:items.size*x≤(sizeLine:Int)) :
    Meets (Builtin.«tuple.__mul__» ⟨[.ref l,.int x u],[]⟩) (fun _ R s=>s.heap.get? l=some { cls:=.type "tuple",dict:=dd,data:=.seq items n,slots:=sl }∧R (.ok (.ret (.ref s.heap.objs.size))) { s with heap:=s.heap.push { cls:=.type "tuple",data:=.seq ((List.replicate x.toNat items).foldl (·++·) #[]) } }) :=
  .of_wp fun prog w A R s h=>by
    obtain ⟨hp,g,d,tk,os⟩:=s;obtain ⟨hl,h⟩:=h
    have g0:(decide (x < -(2^63))||decide (x≥2^63))=false:=by simp;omega
    have g1:(items.isEmpty||(x==1))=false:=by rw [hne];simp;omega
    have g2:(decide (x≤0)||items.isEmpty)=false:=by rw [hne];simp;omega
    have hcap:¬ items.size*x>(2^63-1)/8:=by
      have:((sizeLine:Nat):Int)≤(2^63-1)/8:=by decide
      omega
    have hl2:Builtin.Tuple.tupleTooMany (items.size*x)=false:=by unfold Builtin.Tuple.tupleTooMany;simp;omega
    wp_walk
    rw [if_neg (by rw [g0];exact Bool.false_ne_true)]
    wp_walk
    rw [if_neg (by rw [g1];exact Bool.false_ne_true)]
    wp_walk
    rw [if_neg (by rw [g2];exact Bool.false_ne_true)]
    dsimp only
    rw [if_neg hcap,if_neg (by rw [hl2];exact Bool.false_ne_true)]
    have hs:((List.replicate x.toNat items).foldl (·++·) #[]).size≤sizeLine:=by
      have e:∀(k:Nat) (acc:Array Value),((List.replicate k items).foldl (·++·) acc).size=acc.size+k*items.size:=by
        intro k
        induction k with
        | zero=>intro acc;simp
        | succ k ih=>intro acc;rw [List.replicate_succ,List.foldl_cons,ih,Array.size_append,Nat.succ_mul];omega
      rw [e]
      have h4:(items.size:Int)*x=((x.toNat*items.size:Nat):Int):=by rw [Int.natCast_mul,Int.toNat_of_nonneg (by omega),Int.mul_comm]
      rw [h4] at hz
      simp
      omega
    unfold Builtin.Tuple.tupleExact
    refine wpAny_bind (wpAny_newObj_type ?_ hs)
    exact wpAny_pure ⟨_,rfl,h⟩
section
variable {X:Cx}
def zgP (K:PySem.W.Frag):R2:=fun x y H Q=>∃(a:Addr) (k:Int) (xs:List V),x = .ref a∧y = .int k∧SqT K H a xs∧xs≠[]∧0≤k∧k<2^63∧xs.length*k.toNat≤sizeLine∧
  (k=1→Q (.ref a) H)∧(k≠1→∀p,H p=none→Q (.ref p) (upd H p (.tup (List.replicate k.toNat xs).flatten)))
theorem yc3:OpR X (binaryOp .Mult) (zgP X.K):=by
  intro pins s σ H x y v u Q I rx ry h
  obtain ⟨a,k,xs,rfl,rfl,ha,hne,h0,h1,hz,q1,q2⟩:=h
  cases rx
  obtain ⟨t,rfl⟩:=ry
  obtain ⟨its,r,⟨⟨cls,dd,data,sl⟩,ho,hc,n,hd⟩,z⟩:=I.tuple ha
  simp only at hc hd
  subst hc hd
  have hl:=r.length
  have hine:its.toArray.isEmpty=false:=by
    cases its with
    | nil=>cases r;exact absurd rfl hne
    | cons _ _=>rfl
  refine wpAny_binaryOp_repeat_ref (T:="tuple") (U:="int") (by decide) ⟨_,ho,rfl⟩ (fun s'=>typeIs_int s' k t) zca F.fills_int_mul F.slot_int_rmul ydu F.slot_int_index.lookup
    (call_meets F.slot_int_rmul (typeIs_int s k t) F.entry_int_rmul (F.args_int_rmul_2 _ _) (ycF k t a its.toArray n dd sl) ⟨ho,rfl,⟨_,ho,rfl⟩,?_⟩)
  by_cases e1:k=1
  · subst e1
    exact call_meets PySem.F.slot_tuple_mul ⟨_,ho,rfl⟩ PySem.F.entry_tuple_mul (PySem.F.args_tuple_mul_2 _ _) (zd6 a its.toArray n dd sl t) ⟨ho,⟨.ref a,H,I,rfl,q1 rfl⟩⟩
  · by_cases e0:k=0
    · subst e0
      refine call_meets PySem.F.slot_tuple_mul ⟨_,ho,rfl⟩ PySem.F.entry_tuple_mul (PySem.F.args_tuple_mul_2 _ _) (yd0 a its.toArray n dd sl t hine) ⟨ho,?_⟩
      exact ⟨.ref s.heap.objs.size,_,I.laid (t':=s.toks) (o:=.tup []) (fun b ob q=>Heap.get?_push_of_some _ q) (Nat.le_refl _) ⟨Nat.zero_le _,[],.nil,IsTup.new _ _⟩,rfl,q2 e1 _ (I.hok.fresh (Nat.le_refl _))⟩
    · have hz2:(its.toArray.size:Int)*k≤(sizeLine:Int):=by
        rw [List.size_toArray,←hl]
        have h4:(xs.length:Int)*k=((xs.length*k.toNat:Nat):Int):=by rw [Int.natCast_mul,Int.toNat_of_nonneg h0]
        rw [h4];omega
      refine call_meets PySem.F.slot_tuple_mul ⟨_,ho,rfl⟩ PySem.F.entry_tuple_mul (PySem.F.args_tuple_mul_2 _ _) (ydS a its.toArray n dd sl k t hine (by omega) h1 hz2) ⟨ho,?_⟩
      have hnew:List.foldl (fun x1 x2=>x1++x2) #[] (List.replicate k.toNat its.toArray)=(List.replicate k.toNat its).flatten.toArray:=by
        have:=ycw its k.toNat []
        rw [List.nil_append] at this
        exact this
      rw [hnew]
      refine ⟨.ref s.heap.objs.size,_,I.laid (t':=s.toks) (o:=.tup (List.replicate k.toNat xs).flatten) (fun b ob q=>Heap.get?_push_of_some _ q) (Nat.le_refl _) ⟨by rw [zfm,Nat.mul_comm];exact hz,_,r.rep k.toNat,IsTup.new _ _⟩,rfl,q2 e1 _ (I.hok.fresh (Nat.le_refl _))⟩
theorem zdP (l b:Addr) (items2:Array Value) (n n2:Nat) (dd dd2:Option Addr) (sl sl2:Array (Option Value)) :
    Meets (Builtin.«tuple.__add__» ⟨[.ref l,.ref b],[]⟩) (fun _ R s=>s.heap.get? l=some { cls:=.type "tuple",dict:=dd,data:=.seq #[] n,slots:=sl }∧s.heap.get? b=some { cls:=.type "tuple",dict:=dd2,data:=.seq items2 n2,slots:=sl2 }∧R (.ok (.ret (.ref b))) s) :=
  .of_wp fun prog w A R s h=>by
    obtain ⟨hp,g,d,tk,os⟩:=s;obtain ⟨hl,hb,h⟩:=h
    have hsub:isSubtype (.type "tuple") (.type "tuple")=pure true:=by rw [isSubtype_type];kernel_rfl
    wp_walk
    exact ⟨_,rfl,h⟩
def zgE (K:PySem.W.Frag):R2:=fun x y H Q=>∃(a b:Addr) (xs ys:List V),x = .ref a∧y = .ref b∧SqT K H a xs∧SqT K H b ys∧xs.length+ys.length≤sizeLine∧
  (xs=[]→Q (.ref b) H)∧(xs≠[]→ys=[]→Q (.ref a) H)∧(xs≠[]→ys≠[]→∀p,H p=none→Q (.ref p) (upd H p (.tup (xs++ys))))
theorem ycB:OpR X (binaryOp .Add) (zgE X.K):=by
  intro pins s σ H x y v u Q I rx ry h
  obtain ⟨a,b,xs,ys,rfl,rfl,ha,hb,hz,q0,q1,q2⟩:=h
  by_cases hx:xs=[]
  · subst hx
    cases rx
    cases ry
    obtain ⟨its,r1,⟨⟨cls,dd,data,sl⟩,ho,hc,n,hd⟩,_⟩:=I.tuple ha
    obtain ⟨its2,r2,⟨⟨cls2,dd2,data2,sl2⟩,ho2,hc2,n2,hd2⟩,_⟩:=I.tuple hb
    simp only at hc hd hc2 hd2
    subst hc hd hc2 hd2
    cases r1
    exact concat_meets ⟨_,ho,rfl⟩ ⟨_,ho2,rfl⟩ noFill_tuple_add seq_tuple_add PySem.F.slot_tuple_add PySem.F.entry_tuple_add (PySem.F.args_tuple_add_2 _ _) (zdP a b its2.toArray n n2 dd dd2 sl sl2) ⟨ho,ho2,⟨.ref b,H,I,rfl,q0 rfl⟩⟩
  · exact ygr pins s σ H _ _ v u Q I rx ry ⟨a,b,xs,ys,rfl,rfl,ha,hb,hx,hz,q1 hx,q2 hx⟩
end
end L2
end
section
-- text: ExtL
namespace L2
open PySem PySem.Spec PyProof.Rows
section
variable {prog:Program} {w:World} {A:Around} {E:Value→Shared→Prop} {s:Shared}
end
theorem zdh:bootBuiltins "reversed"=some (.type "reversed"):=by decide +kernel
section
variable {X:Cx}
end
end L2
end
section
-- text: ExtM
namespace L2
open PySem PySem.Spec PyProof.Rows
theorem zc4:∀ {ns:List Int} {us:List Value},Vals (ns.map V.int) us→IntsAre us ns
  | [],[],_=>.nil
  | [],_::_,r=>by cases r
  | _::_,[],r=>by cases r
  | n::ns,u::us,.cons r t=>by
    obtain ⟨tk,rfl⟩:=r
    exact .cons n tk (zc4 t)
theorem yb6:∀ {us:List Value} {ns:List Int},IntsAre us ns→Vals (ns.map V.int) us
  | _,_,.nil=>.nil
  | _,_,.cons n t h=>.cons ⟨t,rfl⟩ (yb6 h)
section
variable {X:Cx}
end
end L2
end
section
-- text: ExtN
namespace L2
open PySem PyProof.Rows
section
variable {X:Cx}
end
end L2
end
section
-- text: ExtO
namespace L2
open PySem PyProof.Rows
def Rise (xs:Array Nat):Prop:=xs.toList.Pairwise (· < ·)
theorem ycb {xs:Array Nat} (h:Rise xs) {i j:Nat} (hij:i<j) (hj:j<xs.size):xs[i]'(by omega)<xs[j]:=by
  have:=List.pairwise_iff_getElem.mp h i j (by simpa using (by omega:i<xs.size)) (by simpa using hj) hij
  simpa using this
theorem yda {xs:Array Nat} (h:Rise xs) (j:Nat):∀(fuel lo hi:Nat),hi-lo≤fuel→lo≤hi→hi≤xs.size→
    (∀i (hi':i<xs.size),i<lo→xs[i]<j)→(∀i (hi':i<xs.size),hi≤i→j≤xs[i])→
    SetTable.below.go xs j fuel lo hi≤xs.size∧(∀i (hi':i<xs.size),i<SetTable.below.go xs j fuel lo hi→xs[i]<j)∧(∀i (hi':i<xs.size),SetTable.below.go xs j fuel lo hi≤i→j≤xs[i])
  | 0,lo,hi,hf,hl,hs,h1,h2=>by
    have e:lo=hi:=by omega
    subst e
    exact ⟨hs,h1,h2⟩
  | fuel+1,lo,hi,hf,hl,hs,h1,h2=>by
    unfold SetTable.below.go
    by_cases c:lo<hi
    · rw [if_pos c]
      have hm:(lo+hi)/2<xs.size:=by omega
      have eg:xs.getD ((lo+hi)/2) j=xs[(lo+hi)/2]:=by simp [Array.getD,hm]
      dsimp only
      rw [eg]
      by_cases d:xs[(lo+hi)/2]<j
      · rw [if_pos d]
        refine yda h j fuel _ _ (by omega) (by omega) hs (fun i hi' hlt=>?_) h2
        by_cases e:i=(lo+hi)/2
        · subst e;exact d
        · exact Nat.lt_trans (ycb h (by omega) hm) d
      · rw [if_neg d]
        refine yda h j fuel _ _ (by omega) (by omega) (by omega) h1 fun i hi' hge=>?_
        by_cases e:i=(lo+hi)/2
        · subst e;omega
        · have:=ycb h (show (lo+hi)/2<i by omega) hi'
          omega
    · rw [if_neg c]
      have e:lo=hi:=by omega
      subst e
      exact ⟨hs,h1,h2⟩
theorem zbX {xs:Array Nat} (h:Rise xs) (j:Nat):SetTable.below xs j≤xs.size∧(∀i (hi':i<xs.size),i<SetTable.below xs j→xs[i]<j)∧(∀i (hi':i<xs.size),SetTable.below xs j≤i→j≤xs[i]) :=
  yda h j xs.size 0 xs.size (by omega) (by omega) (Nat.le_refl _) (fun i _ hi=>absurd hi (Nat.not_lt_zero _)) (fun i hi' hge=>absurd hi' (by omega))
theorem zd0 {xs:Array Nat} (h:Rise xs) {j:Nat} (hn:xs[SetTable.below xs j]?≠some j):Rise (SetTable.insertAt xs (SetTable.below xs j) j):=by
  obtain ⟨h1,h2,h3⟩:=zbX h j
  generalize SetTable.below xs j=r at *
  unfold Rise
  rw [SetTable.toList_insertAt]
  have hd:∀y∈xs.toList.drop r,j<y:=by
    intro y hy
    obtain ⟨i,hi,e⟩:=List.getElem_of_mem hy
    rw [List.getElem_drop] at e
    have hi2:r+i<xs.size:=by simp at hi;omega
    have e2:y=xs[r+i]:=by rw [←e];simp
    have h4:=h3 (r+i) hi2 (by omega)
    have h5:r<xs.size:=by omega
    have h6:=h3 r h5 (Nat.le_refl _)
    have h7:xs[r]≠j:=fun q=>hn (by rw [Array.getElem?_eq_getElem h5,q])
    by_cases c:i=0
    · subst c;rw [e2];simp only [Nat.add_zero];omega
    · have:=ycb h (show r<r+i by omega) hi2
      rw [e2];omega
  have ht:∀y∈xs.toList.take r,y<j:=by
    intro y hy
    obtain ⟨i,hi,e⟩:=List.getElem_of_mem hy
    rw [List.getElem_take] at e
    have hi2:i<xs.size:=by simp at hi;omega
    have e2:y=xs[i]:=by rw [←e];simp
    rw [e2]
    exact h2 i hi2 (by simp at hi;omega)
  refine List.pairwise_append.mpr ⟨List.Pairwise.sublist (List.take_sublist _ _) h,List.pairwise_cons.mpr ⟨hd,List.Pairwise.sublist (List.drop_sublist _ _) h⟩,fun a ha b hb=>?_⟩
  rcases List.mem_cons.mp hb with rfl|hb
  · exact ht a ha
  · exact Nat.lt_trans (ht a ha) (hd b hb)
theorem yc1 {t:SetTable} {f:Nat→Int} {h:Int}:∀(fuel:Nat) (p:SetTable.Probe) {j:Nat} {d:Option Nat},(∀e,p.dummy=some e→t.slot e = .dummy)→SetTable.probe.go t f h fuel p=some (.empty j d)→t.slot j = .empty∧∀e,d=some e→t.slot e = .dummy
  | 0,p,j,d,_,e=>by cases e
  | fuel+1,p,j,d,hp,e=>by
    unfold SetTable.probe.go at e
    have adv:∀q:SetTable.Probe,(t.advance q).dummy=q.dummy:=fun q=>by unfold SetTable.advance;split <;> rfl
    cases hs:t.slot p.j with
    | empty=>rw [hs] at e;cases e;exact ⟨hs,hp⟩
    | dummy =>
      rw [hs] at e
      refine yc1 fuel _ (fun x hx=>?_) e
      rw [adv] at hx;cases hx;exact hs
    | live i =>
      rw [hs] at e
      dsimp only at e
      split at e
      · cases e
      · refine yc1 fuel _ (fun x hx=>?_) e
        rw [adv] at hx;exact hp x hx
theorem yeX {t:SetTable} {h:Int} {j:Nat} {b:Bool} (e:t.freeSlot h=some (j,b)):∀i,t.slot j≠.live i:=by
  unfold SetTable.freeSlot at e
  split at e
  · rename_i j' d hm
    obtain ⟨h1,h2⟩:=yc1 (t:=t) _ _ (fun e he=>by cases he) hm
    cases e
    intro i
    cases d with
    | none=>show t.slot j'≠_;rw [h1];exact fun q=>nomatch q
    | some d=>show t.slot d≠_;rw [h2 d rfl];exact fun q=>nomatch q
  · cases e
theorem yfu {t:SetTable} {j:Nat} (h:∀i,t.slot j≠.live i):t.place[SetTable.below t.place j]?≠some j:=fun e=>by
  refine h (SetTable.below t.place j) ?_
  unfold SetTable.slot
  dsimp only
  rw [if_pos (by rw [e];exact beq_self_eq_true _)]
structure TabG (led:Bool) (t:SetTable):Prop where
  led:t.led=led
  rise:t.plain=true→Rise t.place
theorem TabG.standIn {led:Bool} {t:SetTable} (h:TabG led t) (n:Nat):TabG led (t.standIn n):=⟨h.led,fun e=>by cases e⟩
theorem yfK {led:Bool} {t:SetTable} (h:TabG led t) (es:Array (Int×Value)) (k:Int) (x:Value):TabG led (layNew t es k x).2.1:=by
  unfold layNew
  split
  · rename_i slot wasDummy he
    dsimp only
    have hp:TabG led (t.put slot).1:=by
      refine ⟨h.led,fun e=>?_⟩
      exact zd0 (h.rise e) (yfu (yeX he))
    unfold SetTable.orStandIn
    split
    · exact hp
    · exact hp.standIn _
  · exact h.standIn _
theorem zeF {led:Bool} {t:SetTable} (h:TabG led t) (es:Array (Int×Value)) (n:Nat):TabG led (relayAll t es n).2.1:=by
  unfold relayAll
  split
  · rename_i t' order he
    have ht:TabG led t':=by
      unfold SetTable.relaid SetTable.laid at he
      simp only [Option.bind_eq_bind,Option.bind_eq_some_iff] at he
      obtain ⟨owner,_,he⟩:=he
      cases he
      refine ⟨h.led,fun _=>?_⟩
      unfold Rise
      dsimp only
      rw [List.pairwise_map,List.pairwise_filterMap]
      refine List.Pairwise.imp ?_ List.pairwise_lt_range
      intro a b hab x hx y hy
      cases h1:owner.getD a none with
      | none=>rw [h1] at hx;cases hx
      | some u =>
        cases h2:owner.getD b none with
        | none=>rw [h2] at hy;cases hy
        | some v=>rw [h1] at hx;rw [h2] at hy;cases hx;cases hy;exact hab
    dsimp only
    split
    · exact ht
    · exact h.standIn _
  · exact h.standIn _
section
variable {prog:Program} {w:World} {A:Around} {E:Value→Shared→Prop} {s:Shared}
abbrev zbf (w:World):Bool:=w.params.followText "set-order"
def SetG (w:World) (prog:Program) (h:Heap) (a:Addr) (S:Int→Bool) (n:Nat):Prop :=
  ∃o es ep t,h.get? a=some o∧o.ExactSet∧o.data = .set es ep t∧ElemsOf (intKind prog w) es.toList∧(∀k,S k=true↔∃e∈es.toList,(intKind prog w).is k e.2=true)
    ∧es.size<scanBound∧t.fits es.size=true∧es.size=n∧TabG (!zbf w) t
theorem ydF {h:Heap} {a:Addr} {o:Obj} {es:Array (Int×Value)} {ep:Nat} {t:SetTable} (ho:h.get? a=some o) (hd:o.data = .set es ep t) (es':Array (Int×Value)) (t':SetTable) :
    (h.update a (Obj.putSet es' t')).get? a=some { o with data:=.set es' (ep+1) t' }:=by
  have:=Heap.get?_update_self (Obj.putSet es' t') ho (by rw [putSet_of es' t' hd];rfl)
  rw [putSet_of es' t' hd] at this;exact this
theorem yhs {a:Addr} {S:Int→Bool} {n:Nat} {k:Int} {tk:Tok} {Q:Bool→Shared→Prop} (hS:SetG w prog s.heap a S n) (hroom:n+1<scanBound)
    (h:∀h' b,Heap.SameBut a s.heap h'→SetG w prog h' a (fun k'=>S k'||decide (k'=k)) (if S k then n else n+1)→Q b { s with heap:=h' }) :
    wpAny (model prog w) A (setAddHashed a (.int k tk) ((intKind prog w).hash k)) Q E s:=by
  obtain ⟨o,es,ep,t,ho,hex,hd,hel,hmem,hb,hf,hn,hG⟩:=hS
  have hkey:(intKind prog w).is k (.int k tk)=true:=intKind_is _ _ _ _
  have hsc:(Value.int k tk).scannable=true:=rfl
  unfold setAddHashed setAddHashedIn
  refine wpAny_holding (wpAny_bind (wpAny_setState_of ho hd hf ?_))
  dsimp only
  rw [byScan_of hsc hb hel,if_pos rfl]
  unfold setAddByScan
  refine wpAny_bind (wpAny_bind (wpAny_rule (wpAny_bind (wpAny_setScan_of hkey ho hd hf hel ?_))))
  cases hr:List.findIdx? (fun e=>(intKind prog w).is k e.2) es.toList with
  | some j =>
    obtain ⟨hj,hpj,_⟩:=List.findIdx?_eq_some_iff_getElem.mp hr
    have hSk:S k=true:=(hmem k).mpr ⟨es.toList[j],List.getElem_mem hj,hpj⟩
    refine wpAny_pure (wpAny_pure ?_)
    have h1:=h s.heap false (Heap.SameBut.refl a s.heap) ⟨o,es,ep,t,ho,hex,hd,hel,fun k'=>by
      rw [Bool.or_eq_true,decide_eq_true_eq,←hmem k']
      exact ⟨fun hk=>hk.elim id (fun e=>e ▸ hSk),.inl⟩,hb,hf,by rw [hSk];exact hn,hG⟩
    exact h1
  | none =>
    have hSk:S k=false:=by
      cases hk:S k with
      | false=>rfl
      | true =>
        obtain ⟨e,he,hp⟩:=(hmem k).mp hk
        have:=List.findIdx?_eq_none_iff.mp hr e he
        rw [hp] at this;cases this
    have hperm:=layNew_perm t es ((intKind prog w).hash k) (.int k tk)
    have hfits:=layNew_fits t es ((intKind prog w).hash k) (.int k tk)
    have hG1:=yfK hG es ((intKind prog w).hash k) (.int k tk)
    dsimp only
    generalize layNew t es ((intKind prog w).hash k) (.int k tk)=L at hperm hfits hG1 ⊢
    obtain ⟨es1,t1,wasDummy,gave⟩:=L
    dsimp only at hperm hfits hG1 ⊢
    rw [Array.toList_push] at hperm
    have hel1:ElemsOf (intKind prog w) es1.toList:=(hel.push hkey hsc).perm hperm
    have hmem1:∀k',(S k'||decide (k'=k))=true↔∃e∈es1.toList,(intKind prog w).is k' e.2=true:=mem_push_iff hkey hmem hperm
    have hsz1:es1.size=n+1:=by rw [←Array.length_toList,hperm.length_eq,List.length_append,Array.length_toList,hn];rfl
    have hz:es1.size≤sizeLine:=fits_of_scanBound (by omega)
    have en:(if S k=true then n else n+1)=n+1:=by rw [hSk];rfl
    rw [en] at h
    have fin:∀t2:SetTable,TabG (!zbf w) t2→t2.fits es1.size=true→wpAny (model prog w) A (storeSet a es1 t2 >>= fun _=>if (!wasDummy&&t2.tooFull)=true then
          (match (relayAll t2 es1 (SetTable.grown es1.size)).2.2 with|true=>rule "set.scan.the-table-gave-way"|false=>pure ()) >>= fun _=>storeSet a (relayAll t2 es1 (SetTable.grown es1.size)).1 (relayAll t2 es1 (SetTable.grown es1.size)).2.1 >>= fun _=>pure (some true)
        else pure (some true)) (fun r s'=>∃h',s'={ s with heap:=h' }∧r=some true∧Heap.SameBut a s.heap h'∧SetG w prog h' a (fun k'=>S k'||decide (k'=k)) (n+1)) E s:=by
      intro t2 g2 f2
      refine wpAny_bind (wpAny_storeSet_of ho hd ?_ hz)
      have o1:=ydF ho hd es1 t2
      have b1:=Heap.SameBut.update s.heap a (Obj.putSet es1 t2)
      split
      · have hp:=relayAll_perm t2 es1 (SetTable.grown es1.size)
        have hfr:=relayAll_fits t2 es1 (SetTable.grown es1.size)
        have g3:=zeF g2 es1 (SetTable.grown es1.size)
        generalize relayAll t2 es1 (SetTable.grown es1.size)=Rl at hp hfr g3 ⊢
        obtain ⟨es2,t3,gave2⟩:=Rl
        dsimp only at hp hfr g3 ⊢
        have hsz:es2.size=es1.size:=by rw [←Array.length_toList,hp.length_eq,Array.length_toList]
        have rest:wpAny (model prog w) A (storeSet a es2 t3 >>= fun _=>pure (some true)) (fun r s'=>∃h',s'={ s with heap:=h' }∧r=some true∧Heap.SameBut a s.heap h'∧SetG w prog h' a (fun k'=>S k'||decide (k'=k)) (n+1)) E { s with heap:=s.heap.update a (Obj.putSet es1 t2) }:=by
          refine wpAny_bind (wpAny_storeSet_of o1 rfl ?_ (by omega))
          exact wpAny_pure ⟨_,rfl,rfl,b1.trans (Heap.SameBut.update _ a _),_,es2,_,t3,ydF o1 rfl es2 t3,hex,rfl,hel1.perm hp,fun k'=>(hmem1 k').trans ⟨fun ⟨e,he,q⟩=>⟨e,hp.mem_iff.mpr he,q⟩,fun ⟨e,he,q⟩=>⟨e,hp.mem_iff.mp he,q⟩⟩,by omega,hfr,by omega,g3⟩
        cases gave2
        · exact wpAny_bind (wpAny_pure rest)
        · exact wpAny_bind (wpAny_rule rest)
      · exact wpAny_pure ⟨_,rfl,rfl,b1,_,es1,_,t2,o1,hex,rfl,hel1,hmem1,by omega,f2,hsz1,g2⟩
    have hgw:∀(b:Bool) {s₁:Shared} {Q':Unit→Shared→Prop},Q' () s₁→wpAny (model prog w) A (match b with|true=>rule "set.scan.the-table-gave-way"|false=>pure ()) Q' E s₁ :=
      fun b s₁ Q' hq=>by cases b <;> first|exact wpAny_pure hq|exact wpAny_rule hq
    refine wpAny_bind (hgw gave ?_)
    split
    · refine wpAny_bind ?_
      rw [hashByValue_scannable 8 hsc]
      refine wpAny_pure ?_
      refine thn (fin t1 hG1 hfits) fun r s' ⟨h',e1,e2,b,g⟩=>?_
      subst e1;subst e2
      exact wpAny_pure (h h' true b g)
    · refine wpAny_bind (wpAny_pure ?_)
      refine thn (fin t1 hG1 hfits) fun r s' ⟨h',e1,e2,b,g⟩=>?_
      subst e1;subst e2
      exact wpAny_pure (h h' true b g)
theorem SetG.at {h h':Heap} {a:Addr} {S:Int→Bool} {n:Nat} (x:SetG w prog h a S n) (e:∀o,h.get? a=some o→h'.get? a=some o):SetG w prog h' a S n:=by
  obtain ⟨o,es,ep,t,ho,r⟩:=x
  exact ⟨o,es,ep,t,e o ho,r⟩
theorem SetG.congr {h:Heap} {a:Addr} {S S':Int→Bool} {n n':Nat} (x:SetG w prog h a S n) (e:∀k,S k=S' k) (en:n=n'):SetG w prog h a S' n':=by
  have:S=S':=funext e
  subst this;subst en;exact x
section
variable {R:Result→Shared→Prop} {I:Addr} {fp wr:List Addr} {G:Array GenState→Array GenState→Prop} {n:Nat} {P:Nat→Value→Prop} {St:Nat→Shared→Prop}
theorem zgQ (W:WalksS prog w A.in1 I fp wr G n P St) (S:Addr) (hSf:S∉fp) (val:Nat→Int) (hval:∀i v,P i v→∃t,v = .int (val i) t) (hb:n+1<scanBound):∀(k i:Nat) (s:Shared),n-i=k→i≤n→St i s→
      SetG w prog s.heap S (fun k'=>(firstMet val i).any (·==k')) (firstMet val i).length→
      (∀s',Moved (S::wr) G s s'→SetG w prog s'.heap S (fun k'=>(firstMet val n).any (·==k')) (firstMet val n).length→R (.ok (.ret .none)) s')→
      codeAny (model prog w) A (.builtin "set.update.loop" ⟨[.ref S,.ref I],[]⟩) R s:=by
  have hSw:S∉wr:=fun h=>hSf (W.sub _ h)
  have hsub:∀b∈wr,b∈S::wr:=fun b hb=>List.mem_cons_of_mem _ hb
  intro k
  induction k with
  | zero =>
    intro i s hk hi hst hS hR
    obtain rfl:i=n:=by omega
    refine codeAny_builtin F.entry_set_update_loop ?_
    rw [Around.under_plainId F.plain_set_update_loop _]
    show wpAny _ A.in1 (pyNext (.ref I) >>= _) _ _ s
    refine wpAny_bind (W.done s _ _ hst fun s' hm=>?_)
    exact wpAny_pure (hR s' (hm.mono hsub) (hS.at fun o e=>hm.heap S o hSw e))
  | succ k ih =>
    intro i s hk hi hst hS hR
    have hlt:i<n:=by omega
    refine codeAny_builtin F.entry_set_update_loop ?_
    rw [Around.under_plainId F.plain_set_update_loop _]
    show wpAny _ A.in1 (pyNext (.ref I) >>= _) _ _ s
    refine wpAny_bind (W.item i s _ _ hlt hst fun v s' hP hst' hm=>?_)
    obtain ⟨t,rfl⟩:=hval i v hP
    have hS':=hS.at (h':=s'.heap) fun o e=>hm.heap S o hSw e
    show wpAny _ A.in1 (holding [Value.int (val i) t] (setAdd S (.int (val i) t)) >>= _) _ _ s'
    refine wpAny_bind (wpAny_holding ?_)
    unfold setAdd
    refine wpAny_holding (wpAny_bind ((intKind prog w).pyHash (k:=val i) (intKind_is _ _ _ _) ?_))
    have hroom:(firstMet val i).length+1<scanBound:=by have:=firstMet_length_le val i;omega
    refine yhs (s:={ s' with toks:=s'.toks+1 }) hS' hroom fun h' b hsb hS2=>?_
    have hSi:SetG w prog h' S (fun k'=>(firstMet val (i+1)).any (·==k')) (firstMet val (i+1)).length:=hS2.congr (fun k'=>by rw [firstMet_succ,step_any]) (by rw [firstMet_succ,step_length])
    refine wpAny_pure ⟨plainId_quiet F.plain_set_update_loop _,ih (i+1) _ (by omega) hlt (W.frame _ s' _ _ hst' (Nat.le_succ _) fun b hb o e=>?_) hSi fun s'' hm'' hS''=>?_⟩
    · rw [hsb.2 b (fun h:b=S=>hSf (by rw [←h];exact hb))];exact e
    · refine hR s'' (Moved.trans W.gtrans ((hm.mono hsub).then_heap (Nat.le_succ _) fun b o hb e=>?_) hm'') hS''
      rw [hsb.2 b (fun h:b=S=>hb (by rw [h];exact List.mem_cons_self))];exact e
end
abbrev zbj (w:World):Obj:={ cls:=.type "set",dict:=none,data:=.set #[] 0 (.fresh 0 0 (!zbf w)) }
theorem yfP {h:Heap} {a:Addr} (e:h.get? a=some (zbj w)):SetG w prog h a (fun _=>false) 0 :=
  ⟨_,#[],0,_,e,⟨rfl,rfl,rfl⟩,rfl,fun e he=>by simp at he,fun k=>by simp,by decide,by rfl,rfl,⟨rfl,fun _=>List.Pairwise.nil⟩⟩
theorem zfc (a:Value) {Q₁:Value→Shared→Prop} (h:Q₁ (.ref s.heap.objs.size) { s with heap:=s.heap.push (zbj w) }) :
    codeAny (model prog w) A (.call (.builtin "set.__new__") ⟨[.type "set",a],[]⟩) (wants Q₁ E) s:=by
  refine codeAny_of_tree ?_
  show wpAny _ A.in1 (do checkBuiltinCall "set.__new__" ⟨[.type "set",a],[]⟩;again (.builtin "set.__new__" ⟨[.type "set",a],[]⟩)) _ _ s
  refine wpAny_bind (wpAny_of_eq (F.newCall_set_1 a) (wpAny_pure ⟨plainId_quiet F.plain_set_new _,codeAny_builtin F.entry_set_new ?_⟩))
  rw [Around.under_plainId F.plain_set_new _]
  unfold Builtin.«set.__new__» Builtin.Frozenset.newClass
  have hsub:=sub_set_self
  obtain ⟨hp,g,d,tk,os⟩:=s
  dsimp only
  wp_walk
  refine wpAny_askSetting (wpAny_pure ?_)
  dsimp only
  simp only [newObj]
  refine wpAny_bind (wpAny_alloc (wpAny_pure ?_))
  exact wpAny_pure h
set_option maxHeartbeats 8000000 in
theorem yeC {l:Addr} {items:Array Value} {ns:List Int} {Q:Value→Shared→Prop} (hh:A.handled=none) (hl:s.heap.IsList l items) (hi:IntsAre items.toList ns) (hb:items.size+1<scanBound)
    (h:∀(h':Heap) (tk:Nat),SetG w prog h' s.heap.objs.size (fun k'=>(firstMet (fun i=>ns.getD i 0) items.size).any (·==k')) (firstMet (fun i=>ns.getD i 0) items.size).length→
      (∀b o,s.heap.get? b=some o→h'.get? b=some o)→Q (.ref s.heap.objs.size) { s with heap:=h',toks:=tk }) :
    wpAny (model prog w) A (call (.type "set") [.ref l]) Q E s:=by
  obtain ⟨c,tl,hmro⟩:=F.called_set.mro
  have hmade:=F.called_set.made
  have hsub:=F.called_set.sub
  refine wpAny_call (codeAny_of_tree ?_)
  show wpAny _ _ (callAny (.type "set") _) _ _ _
  refine wpAny_pure ⟨Code.quiet_builtin _ (by decide +kernel),codeAny_builtin F.entry_type_call ?_⟩
  rw [Around.under_plain (weight_type_call_type "set" [.ref l] []) rfl]
  have h1:=F.called_set.notType
  have h2:=F.called_set.canCreate
  have hct:=F.typeCall_set_1 (.ref l)
  repeat (any_goals (first|assumption|wp_step))
  refine codeAny_mono (zfc (.ref l) (E:=E) (Q₁:=fun obj s₁=>obj = .ref s.heap.objs.size∧s₁={ s with heap:=s.heap.push (zbj w) }) ⟨rfl,rfl⟩) fun r s₁ hr=>?_
  cases r with
  | error e=>exact hr
  | ok fl =>
    cases fl with
    | ret obj =>
      obtain ⟨rfl,rfl⟩:=hr
      have hS:(s.heap.push (zbj w)).get? s.heap.objs.size=some (zbj w):=Heap.get?_push_size _ rfl
      have hT:Shared.TypeIs { s with heap:=s.heap.push (zbj w) } (.ref s.heap.objs.size) "set":=⟨_,hS,rfl⟩
      have hli:=F.called_set.init.lookup
      have hbi:=F.called_set.init.bind (.ref s.heap.objs.size)
      repeat (any_goals (first|assumption|wp_step))
      refine codeAny_mono (codeAny_call_builtin (R:=wants (fun r s₂=>r = .none∧∃h' tk,s₂={ s with heap:=h',toks:=tk }∧
          SetG w prog h' s.heap.objs.size (fun k'=>(firstMet (fun i=>ns.getD i 0) items.size).any (·==k')) (firstMet (fun i=>ns.getD i 0) items.size).length∧
          (∀b o,s.heap.get? b=some o→h'.get? b=some o)) E) F.called_set.init.plain F.entry_set_init (check_set_init_1 hT ?_)) fun r₂ s₂ hr₂=>?_
      · obtain ⟨ol,hol,hcl,nl,hdl⟩:=hl
        obtain ⟨ocls,odict,odata,oslots⟩:=ol
        simp only at hcl hdl
        subst hcl;subst hdl
        have hol':(s.heap.push (zbj w)).get? l=some { cls:=.type "list",dict:=odict,data:=.seq items nl,slots:=oslots }:=Heap.get?_push_of_some _ hol
        have hsls:=F.sub_list_set
        have hslf:=F.sub_list_frozenset
        have hne:(Value.type "list"==Value.type "dict")=false:=by decide
        have hl1:(s.heap.push (zbj w)).IsList l items:=⟨_,hol',rfl,nl,rfl⟩
        unfold Builtin.«set.__init__» noKeywords Builtin.Frozenset.updateFrom
        generalize hPI:pyIter=PI
        wp_walk
        subst hPI
        refine wpAny_pyIter_list hl1 ?_
        refine wpAny_bind (wpAny_runValue ?_)
        have hlS:l<s.heap.objs.size:=Heap.lt_size hol
        have hneI:l≠(s.heap.push (zbj w)).objs.size:=by rw [Heap.size_push];exact Nat.ne_of_lt (Nat.lt_succ_of_lt hlS)
        have hSf:s.heap.objs.size∉[(s.heap.push (zbj w)).objs.size,l]:=by
          rw [Heap.size_push];simp only [List.mem_cons,List.not_mem_nil,or_false,not_or]
          exact ⟨Nat.ne_of_lt (Nat.lt_succ_self _),Nat.ne_of_gt hlS⟩
        refine zgQ ((Walks.list (by simp [hh]) _ l hneI items).toS) s.heap.objs.size hSf (fun i=>ns.getD i 0) (fun i v hv=>IntsAre.int_at hi i v (by rw [Array.getElem?_toList];exact hv)) hb (items.size-0) 0 _ (by omega) (Nat.zero_le _)
          ⟨⟨_,Heap.get?_push_size _ rfl,rfl,rfl⟩,(hl1.push _)⟩ ((yfP (Heap.get?_push_of_some _ hS)).congr (fun _=>rfl) rfl) fun s' hm hS'=>?_
        obtain ⟨h',g',d',tk',os'⟩:=s'
        obtain rfl:g'=s.gens:=hm.gens
        obtain rfl:d'=s.drawn:=hm.drawn
        obtain rfl:os'=s.os:=hm.os
        show wpAny _ _ _ _ _ _
        refine wpAny_pure ?_
        show wpAny _ _ (ret Value.none) _ _ _
        refine wpAny_pure ⟨rfl,h',tk',rfl,hS',fun b o e=>?_⟩
        have hb:=Heap.lt_size e
        refine hm.heap b o ?_ (Heap.get?_push_of_some _ (Heap.get?_push_of_some _ e))
        simp only [List.mem_cons,List.not_mem_nil,or_false,not_or]
        rw [Heap.size_push]
        exact ⟨Nat.ne_of_lt hb,Nat.ne_of_lt (Nat.lt_succ_of_lt hb)⟩
      · cases r₂ with
        | error e=>exact hr₂
        | ok fl₂ =>
          cases fl₂ with
          | ret r =>
            obtain ⟨rfl,h',tk,rfl,hS',hk'⟩:=hr₂
            repeat (any_goals (first|assumption|wp_step))
            exact h _ _ hS' hk'
          | _=>exact hr₂.elim
    | _=>exact hr.elim
end
end L2
end
section
-- text: ExtP
namespace L2
open PySem PyProof.Rows
theorem ybf:Manifest.owners.lookup (String.ofList ['r','o','t','a','r','e','t','i','_','t','e','s'].reverse)=some Manifest.sig_set_iterator:=by kernel_rfl
theorem zaq:Slot "set_iterator" "__next__" "set_iterator.__next__" :=
  .of (owner:="set_iterator") (n:="__next__") (by rw [typeLookup_type,builtinLookup_eq_fast];kernel_rfl) (by decide +kernel) (by decide +kernel) (by decide +kernel)
    (by first|exact .inl (by decide +kernel)|exact .inr (by decide +kernel)) (by rw [isSubtype_type];kernel_rfl)
theorem ya6:entryFor table "set_iterator.__next__"=some Builtin.«set_iterator.__next__»:=entryFor_of_tree (by kernel_rfl)
theorem yaZ (a:Value):argsOk "set_iterator.__next__" ⟨[a],[]⟩:=by
  unfold argsOk;rw [signature?_of (id:="set_iterator.__next__") (n:=['_','_','t','x','e','n','_','_']) (o:=['r','o','t','a','r','e','t','i','_','t','e','s']) (by kernel_rfl) ybf];kernel_rfl
theorem ycE:entryFor table "set.__iter__"=some Builtin.«frozenset.__iter__» :=
  entryFor_alias (id':="frozenset.__iter__") (by kernel_rfl) (by first|rfl|decide +kernel|(unfold String.splitOn;simp +decide [String.splitOnAux])) (by decide +kernel) (by kernel_rfl)
def IsSI (h:Heap) (I S:Addr) (first:Value) (i n ep:Nat):Prop:=∃o,h.get? I=some o∧o.cls = .type "set_iterator"∧o.data = .fields #[first,rawInt i,.ref S,rawInt n,rawInt ep]
theorem IsSI.at {h h':Heap} {I S:Addr} {first:Value} {i n ep:Nat} (x:IsSI h I S first i n ep) (e:∀o,h.get? I=some o→h'.get? I=some o):IsSI h' I S first i n ep:=let ⟨o,ho,r⟩:=x;⟨o,e _ ho,r⟩
def yb9 (h:Heap) (S:Addr) (es:Array (Int×Value)) (ep:Nat) (t:SetTable):Prop:=∃o,h.get? S=some o∧o.data = .set es ep t∧t.fits es.size=true
theorem yb9.at {h h':Heap} {S:Addr} {es:Array (Int×Value)} {ep:Nat} {t:SetTable} (x:yb9 h S es ep t) (e:∀o,h.get? S=some o→h'.get? S=some o):yb9 h' S es ep t:=let ⟨o,ho,r⟩:=x;⟨o,e _ ho,r⟩
section
variable {prog:Program} {w:World} {A:Around} {E:Value→Shared→Prop} {s:Shared}
theorem IsSI.typeIs {I S:Addr} {first:Value} {i n ep:Nat} (x:IsSI s.heap I S first i n ep):s.TypeIs (.ref I) "set_iterator":=let ⟨o,ho,hc,_⟩:=x;⟨o,ho,hc⟩
def yfN (prog:Program) (w:World) (s:Shared) (S:Addr) (slot i ep:Nat) (r:Option (Value×Nat)):Prop:=∀(A:Around) (E:Value→Shared→Prop) (Q:Option (Value×Nat)→Shared→Prop),Q r s→wpAny (model prog w) A (setNext S slot i ep) Q E s
theorem zeW {I S:Addr} {slot i ep nx:Nat} {es:Array (Int×Value)} {t:SetTable} {x:Value} {Q:Option Value→Shared→Prop} (hit:IsSI s.heap I S (rawInt slot) i es.size ep) (hs:yb9 s.heap S es ep t) (hT:yfN prog w s S slot i ep (some (x,nx)))
    (hQ:∀h',IsSI h' I S (rawInt nx) (i+1) es.size ep→Heap.SameBut I s.heap h'→Q (some x) { s with heap:=h' }):wpAny (model prog w) A (pyNext (.ref I)) Q E s:=by
  obtain ⟨o,ho,hc,hd⟩:=id hit
  obtain ⟨os,hos,hds,hf⟩:=id hs
  unfold pyNext
  refine wpAny_bind (wpAny_attempt (wpAny_callSpecial?_slot (name:=Str.ofString "__next__") hit.typeIs zaq
    (wpAny_call_entry zaq hit.typeIs ya6 ?_ (yaZ _))))
  unfold Builtin.«set_iterator.__next__»
  refine wpAny_bind (wpAny_of_eq (a:=(Value.ref I,[])) rfl ?_)
  try dsimp only
  refine wpAny_bind (wpAny_fieldsOf ho hd ?_)
  simp only [rawInt]
  refine wpAny_bind (wpAny_setEntries_of hos hds hf ?_)
  refine wpAny_ite_split (fun h=>absurd h (by simp)) (fun _=>?_)
  refine wpAny_bind (hT _ _ _ ?_)
  dsimp only
  refine wpAny_bind (wpAny_setField ho hd (by simp) ?_)
  have h1:=Heap.get?_update_self (Obj.mapFields (fun vs=>vs.setIfInBounds 0 (Value.int nx 0))) ho (Obj.isFreed_of_fields (Obj.data_mapFields hd _))
  refine wpAny_bind (wpAny_setField h1 (Obj.data_mapFields hd _) (by simp) ?_)
  refine wpAny_pure ⟨x,rfl,wpAny_pure (hQ _ ?_ ((Heap.SameBut.update ..).trans (Heap.SameBut.update ..)))⟩
  exact ⟨_,Heap.get?_update_self _ h1 (Obj.isFreed_of_fields (Obj.data_mapFields (Obj.data_mapFields hd _) _)),(Obj.cls_mapFields ..).trans ((Obj.cls_mapFields ..).trans hc),by rw [Obj.data_mapFields (Obj.data_mapFields hd _)];simp [rawInt]⟩
theorem zeJ {I:Addr} {Q:Option Value→Shared→Prop} (hh:A.handled=none) {s1:Shared} (hQ:∀h' tk,(∀b o,s1.heap.get? b=some o→h'.get? b=some o)→Q none { s1 with heap:=h',toks:=tk }) :
    wpAny (model prog w) A.in1 (newExc (.type "StopIteration") [] >>= fun e=>raiseNew e) (fun fin s'=>∃v,fin=Fin.done (Flow.ret v)∧wpAny (model prog w) A (pure (some v)) Q E s')
      (fun e s'=>wpAny (model prog w) A (do if (←isInstance e (.type "StopIteration"))=true then pure none else throw e) Q E s') s1:=by
  refine wpAny_bind ?_
  simp only [newExc,newTuple]
  refine wpAny_bind (wpAny_newObj_type ?_ (by size_fits))
  refine wpAny_bind (m:=firstArgMember _ _) (wpAny_of_eq (a:=Value.none) (by first|rfl|(simp only [firstArgMember];rfl)) ?_)
  refine wpAny_newObj_type ?_ (by size_fits)
  simp only [raiseNew]
  refine wpAny_bind (wpAny_handled ?_)
  first|rw [show A.in1.handled=none from hh]|rw [hh]
  refine wpAny_bind (wpAny_pure (wpAny_throw ?_))
  refine wpAny_bind (wpAny_isInstance (T:="StopIteration") (b:=true) ⟨_,Heap.get?_push_size _ rfl,rfl⟩ isSubtype_stop ?_)
  exact wpAny_pure (hQ _ _ fun b o' e=>Heap.get?_push_of_some _ (Heap.get?_push_of_some _ e))
theorem ygf {I S:Addr} {slot i ep:Nat} {es:Array (Int×Value)} {t:SetTable} {Q:Option Value→Shared→Prop} (hh:A.handled=none) (hit:IsSI s.heap I S (rawInt slot) i es.size ep) (hs:yb9 s.heap S es ep t) (hT:yfN prog w s S slot i ep none)
    (hQ:∀h' tk,Heap.ExtBut I s.heap h'→Q none { s with heap:=h',toks:=tk }):wpAny (model prog w) A (pyNext (.ref I)) Q E s:=by
  obtain ⟨o,ho,hc,hd⟩:=id hit
  obtain ⟨os,hos,hds,hf⟩:=id hs
  unfold pyNext
  refine wpAny_bind (wpAny_attempt (wpAny_callSpecial?_slot (name:=Str.ofString "__next__") hit.typeIs zaq
    (wpAny_call_entry zaq hit.typeIs ya6 ?_ (yaZ _))))
  unfold Builtin.«set_iterator.__next__»
  refine wpAny_bind (wpAny_of_eq (a:=(Value.ref I,[])) rfl ?_)
  try dsimp only
  refine wpAny_bind (wpAny_fieldsOf ho hd ?_)
  simp only [rawInt]
  refine wpAny_bind (wpAny_setEntries_of hos hds hf ?_)
  refine wpAny_ite_split (fun h=>absurd h (by simp)) (fun _=>?_)
  refine wpAny_bind (hT _ _ _ ?_)
  dsimp only
  refine wpAny_bind (wpAny_setField ho hd (by simp) ?_)
  refine zeJ (I:=I) hh fun h' tk k=>hQ h' tk fun b o' hb e=>k b o' ((Heap.get?_update_other _ _ (Ne.symm hb)).trans e)
theorem zgB {I S T:Addr} {i ep pl:Nat} {es:Array (Int×Value)} {t:SetTable} {places:Array Value} {kx:Int×Value} {tk:Tok} {Q:Option Value→Shared→Prop} (hit:IsSI s.heap I S (.ref T) i es.size ep) (hs:yb9 s.heap S es ep t) (ht:s.heap.IsTuple T places)
    (hp:places[i]?=some (.int pl tk)) (hx:es[pl]?=some kx)
    (hQ:∀h',IsSI h' I S (.ref T) (i+1) es.size ep→Heap.SameBut I s.heap h'→Q (some kx.2) { s with heap:=h' }):wpAny (model prog w) A (pyNext (.ref I)) Q E s:=by
  obtain ⟨o,ho,hc,hd⟩:=id hit
  obtain ⟨os,hos,hds,hf⟩:=id hs
  obtain ⟨ot,hot,hct,nt,hdt⟩:=id ht
  unfold pyNext
  refine wpAny_bind (wpAny_attempt (wpAny_callSpecial?_slot (name:=Str.ofString "__next__") hit.typeIs zaq
    (wpAny_call_entry zaq hit.typeIs ya6 ?_ (yaZ _))))
  unfold Builtin.«set_iterator.__next__»
  refine wpAny_bind (wpAny_of_eq (a:=(Value.ref I,[])) rfl ?_)
  try dsimp only
  refine wpAny_bind (wpAny_fieldsOf ho hd ?_)
  simp only [rawInt]
  refine wpAny_bind (wpAny_setEntries_of hos hds hf ?_)
  refine wpAny_ite_split (fun h=>absurd h (by simp)) (fun _=>?_)
  unfold seqItems?
  refine wpAny_bind (wpAny_bind (wpAny_load hot ?_))
  rw [hdt]
  refine wpAny_pure ?_
  dsimp only
  rw [Int.toNat_natCast,hp]
  dsimp only
  unfold setNextDrawn
  refine wpAny_bind (wpAny_bind (wpAny_setState_of hos hds hf ?_))
  dsimp only
  refine wpAny_ite_split (fun h=>absurd h (by simp)) (fun _=>?_)
  rw [Int.toNat_natCast,hx]
  obtain ⟨k0,x⟩:=kx
  refine wpAny_pure ?_
  refine wpAny_bind (wpAny_setField ho hd (by simp) ?_)
  refine wpAny_pure ⟨x,rfl,wpAny_pure (hQ _ ?_ (Heap.SameBut.update ..))⟩
  exact ⟨_,Heap.get?_update_self _ ho (Obj.isFreed_of_fields (Obj.data_mapFields hd _)),(Obj.cls_mapFields ..).trans hc,by rw [Obj.data_mapFields hd];simp [rawInt]⟩
theorem yg4 {I S T:Addr} {i ep:Nat} {es:Array (Int×Value)} {t:SetTable} {places:Array Value} {Q:Option Value→Shared→Prop} (hh:A.handled=none) (hit:IsSI s.heap I S (.ref T) i es.size ep) (hs:yb9 s.heap S es ep t) (ht:s.heap.IsTuple T places)
    (hp:places[i]?=none) (hQ:∀h' tk,Heap.ExtBut I s.heap h'→Q none { s with heap:=h',toks:=tk }):wpAny (model prog w) A (pyNext (.ref I)) Q E s:=by
  obtain ⟨o,ho,hc,hd⟩:=id hit
  obtain ⟨os,hos,hds,hf⟩:=id hs
  obtain ⟨ot,hot,hct,nt,hdt⟩:=id ht
  unfold pyNext
  refine wpAny_bind (wpAny_attempt (wpAny_callSpecial?_slot (name:=Str.ofString "__next__") hit.typeIs zaq
    (wpAny_call_entry zaq hit.typeIs ya6 ?_ (yaZ _))))
  unfold Builtin.«set_iterator.__next__»
  refine wpAny_bind (wpAny_of_eq (a:=(Value.ref I,[])) rfl ?_)
  try dsimp only
  refine wpAny_bind (wpAny_fieldsOf ho hd ?_)
  simp only [rawInt]
  refine wpAny_bind (wpAny_setEntries_of hos hds hf ?_)
  refine wpAny_ite_split (fun h=>absurd h (by simp)) (fun _=>?_)
  unfold seqItems?
  refine wpAny_bind (wpAny_bind (wpAny_load hot ?_))
  rw [hdt]
  refine wpAny_pure ?_
  dsimp only
  rw [Int.toNat_natCast,hp]
  dsimp only
  refine wpAny_bind (wpAny_setField ho hd (by simp) ?_)
  have h1:=Heap.get?_update_self (Obj.mapFields (fun vs=>vs.setIfInBounds 0 (Value.int 0 0))) ho (Obj.isFreed_of_fields (Obj.data_mapFields hd _))
  refine wpAny_bind (wpAny_setField h1 (Obj.data_mapFields hd _) (by simp) ?_)
  refine zeJ (I:=I) hh fun h' tk k=>hQ h' tk fun b o' hb e=>k b o' ((Heap.get?_update_other _ _ (Ne.symm hb)).trans ((Heap.get?_update_other _ _ (Ne.symm hb)).trans e))
theorem ycG {S:Addr} {es:Array (Int×Value)} {ep:Nat} {t:SetTable} (hs:yb9 s.heap S es ep t) (hb:zbf w=true) (slot i:Nat):yfN prog w s S slot i ep (((pickOrder (w.params.setOrder S ep) es)[i]?).map fun e=>(e.2,slot)):=by
  intro A E Q hQ
  obtain ⟨os,hos,hds,hf⟩:=id hs
  unfold setNext setWalk setsByText
  refine wpAny_bind (wpAny_setState_of hos hds hf ?_)
  dsimp only
  refine wpAny_bind (wpAny_bind (wpAny_askSetting (wpAny_pure ?_)))
  refine wpAny_ite_split (fun _=>?_) (fun h=>absurd hb h)
  refine wpAny_ite_split (fun h=>absurd h (by simp)) (fun _=>?_)
  refine wpAny_bind (wpAny_bind (wpAny_setState_of hos hds hf ?_))
  dsimp only
  refine wpAny_bind (wpAny_bind (wpAny_askSetting (wpAny_pure ?_)))
  refine wpAny_ite_split (fun _=>?_) (fun h=>absurd hb h)
  refine wpAny_bind (wpAny_askSetting ?_)
  exact wpAny_pure (wpAny_pure hQ)
theorem zcr {S:Addr} {es:Array (Int×Value)} {ep:Nat} {t:SetTable} (hs:yb9 s.heap S es ep t) (hb:zbf w=false) (hl:t.led=true) (hp:t.plain=true∨es.size≤1) (slot i:Nat) :
    yfN prog w s S slot i ep (match es[SetTable.below t.place slot]?,t.place[SetTable.below t.place slot]? with|some (_,x),some j=>some (x,j+1)|_,_=>none):=by
  intro A E Q hQ
  obtain ⟨os,hos,hds,hf⟩:=id hs
  unfold setNext setsByText
  refine wpAny_bind (wpAny_setState_of hos hds hf ?_)
  dsimp only
  refine wpAny_bind (wpAny_bind (wpAny_askSetting (wpAny_pure ?_)))
  refine wpAny_ite_split (fun h=>absurd (show zbf w=true from h) (by rw [hb];decide)) (fun _=>?_)
  refine wpAny_ite_split (fun h=>?_) (fun _=>?_)
  · have h':(!t.plain&&decide (es.size>1))=true:=h
    simp only [Bool.and_eq_true,Bool.not_eq_true',decide_eq_true_eq] at h'
    rcases hp with hp|hp
    · rw [hp] at h';exact absurd h'.1 (by decide)
    · omega
  refine wpAny_bind ?_
  show wpAny _ _ (if (!t.led&&!es.isEmpty)=true then unsupported "set:maker-not-led" else pure ()) _ _ _
  refine wpAny_ite_split (fun h=>absurd h (by rw [hl];simp)) (fun _=>?_)
  refine wpAny_pure ?_
  exact wpAny_pure hQ
end
end L2
end
section
-- text: ExtQ
namespace L2
open PySem PyProof.Rows
section
variable {prog:Program} {w:World} {A:Around} {E:Value→Shared→Prop} {s:Shared}
theorem zb2 {α:Type}:∀(l:List α) (i:Nat) (h:i<l.length),(l[i]::l.eraseIdx i).Perm l
  | [],i,h=>absurd h (Nat.not_lt_zero _)
  | x::l,0,h=>List.Perm.refl _
  | x::l,i+1,h=>by
    show (l[i]'(by simpa using h)::x::l.eraseIdx i).Perm (x::l)
    exact (List.Perm.swap _ _ _).trans (List.Perm.cons _ (zb2 l i (by simpa using h)))
theorem yeU {α:Type} (f:Nat→Nat):∀(n k:Nat) (l:List α) (out:Array α),l.length=n→(pickOrder.go f n k l out).toList.Perm (out.toList++l)
  | 0,k,l,out,h=>by
    have:l=[]:=List.length_eq_zero_iff.mp h
    subst this
    unfold pickOrder.go
    rw [List.append_nil]
  | n+1,k,l,out,h=>by
    have hi:f k%l.length<l.length:=Nat.mod_lt _ (by omega)
    unfold pickOrder.go
    rw [List.getElem?_eq_getElem hi]
    dsimp only
    have ih:=yeU f n (k+1) (l.eraseIdx (f k%l.length)) (out.push l[f k%l.length]) (by rw [List.length_eraseIdx_of_lt hi];omega)
    refine ih.trans ?_
    rw [Array.toList_push,List.append_assoc]
    exact List.Perm.append_left _ (zb2 _ _ hi)
theorem zcj {α:Type} (f:Nat→Nat) (xs:Array α):(pickOrder f xs).toList.Perm xs.toList:=by
  have:=yeU f xs.size 0 xs.toList #[] (by simp)
  simpa [pickOrder] using this
theorem yc0 {src:Source} {n:Nat} {Q:Nat→Shared→Prop} {M:Model} (hn:n≠0) (h:∀x d',x<n→Q x { s with drawn:=d' }):wpAny M A (choose src n) Q E s:=fun _ _ _=>⟨hn,h _ _ (Nat.mod_lt _ (by omega))⟩
theorem ydn {α:Type} {M:Model}:∀(n:Nat) (xs:List α) (s:Shared) (Q:List α→Shared→Prop),xs.length=n→(∀r d',r.Perm xs→Q r { s with drawn:=d' })→wpAny M A (drawOrder n xs) Q E s
  | 0,xs,s,Q,h,hQ=>by
    have:xs=[]:=List.length_eq_zero_iff.mp h
    subst this
    unfold drawOrder
    exact wpAny_pure (hQ [] s.drawn .nil)
  | n+1,xs,s,Q,h,hQ=>by
    cases xs with
    | nil=>cases h
    | cons y ys =>
      unfold drawOrder
      refine wpAny_bind (yc0 (by simp) fun i d' hi=>?_)
      rw [List.getElem?_eq_getElem hi]
      dsimp only
      refine wpAny_bind (ydn n _ _ _ (by rw [List.length_eraseIdx_of_lt hi];simp at h;simp;omega) fun r d2 hr=>?_)
      exact wpAny_pure (hQ _ d2 ((List.Perm.cons _ hr).trans (zb2 _ _ hi)))
abbrev GE:Array GenState→Array GenState→Prop:=fun a b=>b=a
theorem zb7:Slot "set_iterator" "__iter__" "set_iterator.__iter__" :=
  .of (owner:="set_iterator") (n:="__iter__") (by rw [typeLookup_type,builtinLookup_eq_fast];kernel_rfl) (by decide +kernel) (by decide +kernel) (by decide +kernel)
    (by first|exact .inl (by decide +kernel)|exact .inr (by decide +kernel)) (by rw [isSubtype_type];kernel_rfl)
theorem ycD (a:Value):argsOk "set_iterator.__iter__" ⟨[a],[]⟩:=by
  unfold argsOk;rw [signature?_of (id:="set_iterator.__iter__") (n:=['_','_','r','e','t','i','_','_']) (o:=['r','o','t','a','r','e','t','i','_','t','e','s']) (by kernel_rfl) ybf];kernel_rfl
theorem zc5:entryFor table "set_iterator.__iter__"=some Builtin.«dict_keyiterator.__iter__» :=
  entryFor_alias (id':="dict_keyiterator.__iter__") (by kernel_rfl) (by first|rfl|decide +kernel|(unfold String.splitOn;simp +decide [String.splitOnAux])) (by decide +kernel) (by kernel_rfl)
theorem zch {I S:Addr} {first:Value} {i n ep:Nat} {Q:Value→Shared→Prop} (hit:IsSI s.heap I S first i n ep) (h:Q (.ref I) s):wpAny (model prog w) A (pyIter (.ref I)) Q E s:=by
  refine wpAny_pyIter_slot hit.typeIs zb7 (wpAny_call_entry zb7 hit.typeIs zc5 ?_ (ycD _))
  show wpAny _ _ (ret (.ref I)) _ _ s
  exact wpAny_pure ⟨_,rfl,"set_iterator",_,hit.typeIs,zaq.lookup,h⟩
theorem yfk {I S:Addr} {es:Array (Int×Value)} {ep:Nat} {t:SetTable} (hh:A.handled=none) (hne:S≠I) (hb:zbf w=true) :
    WalksS prog w A I [I,S] [I] GE es.size (fun i v=>((pickOrder (w.params.setOrder S ep) es).toList.map (·.2))[i]?=some v) (fun i s=>IsSI s.heap I S (rawInt ((0:Nat):Int)) i es.size ep∧yb9 s.heap S es ep t) where
  sub:=fun b hb=>by simp at hb;simp [hb]
  grefl:=fun _=>rfl
  gtrans:=fun _ _ _ h1 h2=>h2.trans h1
  frame:=fun i s h' tk st _ hk=>⟨st.1.at fun o e=>hk I (by simp) o e,st.2.at fun o e=>hk S (by simp) o e⟩
  item:=fun i s Q E hi st hQ=>by
    have hl:(pickOrder (w.params.setOrder S ep) es).size=es.size:=by rw [←Array.length_toList,(zcj _ es).length_eq,Array.length_toList]
    have hx:(pickOrder (w.params.setOrder S ep) es)[i]?=some (pickOrder (w.params.setOrder S ep) es)[i]:=Array.getElem?_eq_getElem (by omega)
    have hT:=ycG (prog:=prog) st.2 hb 0 i
    rw [hx] at hT
    refine zeW st.1 st.2 hT fun h' hit' hs'=>?_
    refine hQ _ _ ?_ ⟨hit',st.2.at fun o e=>?_⟩ ⟨fun b o hb e=>?_,rfl,rfl,rfl,Nat.le_refl _⟩
    · rw [List.getElem?_map,Array.getElem?_toList,hx];rfl
    · exact hs'.extBut S o hne e
    · exact hs'.extBut b o (fun q=>hb (by simp [q])) e
  done:=fun s Q E st hQ=>by
    have hl:(pickOrder (w.params.setOrder S ep) es).size=es.size:=by rw [←Array.length_toList,(zcj _ es).length_eq,Array.length_toList]
    have hx:(pickOrder (w.params.setOrder S ep) es)[es.size]?=none:=Array.getElem?_eq_none (by omega)
    have hT:=ycG (prog:=prog) st.2 hb 0 es.size
    rw [hx] at hT
    exact wpAny_with_toks (Nat.le_refl s.toks) (ygf hh st.1 st.2 hT fun h' tk k htk=>hQ _ ⟨fun b o hb e=>k b o (fun q=>hb (by simp [q])) e,rfl,rfl,rfl,htk⟩)
  self:=fun i s Q E st h=>zch st.1 h
def zb5 (place:Array Nat):Nat→Nat
  | 0=>0
  | i+1=>place.getD i 0+1
theorem zb6 {place:Array Nat} (h:Rise place):∀i,i≤place.size→SetTable.below place (zb5 place i)=i
  | 0,_=>by
    obtain ⟨h1,h2,h3⟩:=zbX h 0
    show SetTable.below place 0=0
    rcases Nat.eq_zero_or_pos (SetTable.below place 0) with c|c
    · exact c
    · exact absurd (h2 0 (by omega) c) (Nat.not_lt_zero _)
  | i+1,hi=>by
    have e:zb5 place (i+1)=place[i]+1:=by show place.getD i 0+1=_;simp [Array.getD,show i<place.size by omega]
    obtain ⟨h1,h2,h3⟩:=zbX h (zb5 place (i+1))
    rw [e] at h1 h2 h3 ⊢
    generalize SetTable.below place (place[i]+1)=r at *
    rcases Nat.lt_trichotomy r (i+1) with c|c|c
    · have:=h3 i (by omega) (by omega);omega
    · exact c
    · have h4:=h2 (i+1) (by omega) c
      have h5:=ycb h (show i<i+1 by omega) (by omega)
      omega
theorem zeB {I S:Addr} {es:Array (Int×Value)} {ep:Nat} {t:SetTable} (hh:A.handled=none) (hne:S≠I) (hb:zbf w=false) (hl:t.led=true) (hp:t.plain=true∨es.size≤1) (hr:Rise t.place) (hz:t.place.size=es.size) :
    WalksS prog w A I [I,S] [I] GE es.size (fun i v=>(es.toList.map (·.2))[i]?=some v) (fun i s=>IsSI s.heap I S (rawInt (zb5 t.place i:Nat)) i es.size ep∧yb9 s.heap S es ep t) where
  sub:=fun b hb=>by simp at hb;simp [hb]
  grefl:=fun _=>rfl
  gtrans:=fun _ _ _ h1 h2=>h2.trans h1
  frame:=fun i s h' tk st _ hk=>⟨st.1.at fun o e=>hk I (by simp) o e,st.2.at fun o e=>hk S (by simp) o e⟩
  item:=fun i s Q E hi st hQ=>by
    have hT:=zcr (prog:=prog) st.2 hb hl hp (zb5 t.place i) i
    rw [zb6 hr i (by omega),Array.getElem?_eq_getElem hi,Array.getElem?_eq_getElem (show i<t.place.size by omega)] at hT
    refine zeW (nx:=zb5 t.place (i+1)) (x:=es[i].2) st.1 st.2 ?_ fun h' hit' hs'=>?_
    · have e:zb5 t.place (i+1)=t.place[i]+1:=by show t.place.getD i 0+1=_;simp [Array.getD,show i<t.place.size by omega]
      rw [e];exact hT
    refine hQ _ _ ?_ ⟨hit',st.2.at fun o e=>?_⟩ ⟨fun b o hb e=>?_,rfl,rfl,rfl,Nat.le_refl _⟩
    · rw [List.getElem?_map,Array.getElem?_toList,Array.getElem?_eq_getElem hi];rfl
    · exact hs'.extBut S o hne e
    · exact hs'.extBut b o (fun q=>hb (by simp [q])) e
  done:=fun s Q E st hQ=>by
    have hT:=zcr (prog:=prog) st.2 hb hl hp (zb5 t.place es.size) es.size
    rw [zb6 hr es.size (by omega),Array.getElem?_eq_none (Nat.le_refl _)] at hT
    exact wpAny_with_toks (Nat.le_refl s.toks) (ygf hh st.1 st.2 hT fun h' tk k htk=>hQ _ ⟨fun b o hb e=>k b o (fun q=>hb (by simp [q])) e,rfl,rfl,rfl,htk⟩)
  self:=fun i s Q E st h=>zch st.1 h
theorem yeH {I S T:Addr} {es:Array (Int×Value)} {ep:Nat} {t:SetTable} {ps:List Nat} (hh:A.handled=none) (hne:S≠I) (hneT:T≠I) (hps:ps.Perm (List.range es.size)) :
    WalksS prog w A I [I,S,T] [I] GE es.size (fun i v=>(ps.map fun p=>(es.getD p (0,.none)).2)[i]?=some v) (fun i s=>IsSI s.heap I S (.ref T) i es.size ep∧yb9 s.heap S es ep t∧s.heap.IsTuple T (ps.map fun (p:Nat)=>rawInt p).toArray) where
  sub:=fun b hb=>by simp at hb;simp [hb]
  grefl:=fun _=>rfl
  gtrans:=fun _ _ _ h1 h2=>h2.trans h1
  frame:=fun i s h' tk st _ hk=>⟨st.1.at fun o e=>hk I (by simp) o e,st.2.1.at fun o e=>hk S (by simp) o e,st.2.2.at fun o e=>hk T (by simp) o e⟩
  item:=fun i s Q E hi st hQ=>by
    have hl:ps.length=es.size:=by rw [hps.length_eq,List.length_range]
    have hm:∀p∈ps,p<es.size:=fun p hp=>List.mem_range.mp (hps.mem_iff.mp hp)
    have hpi:ps[i]'(by omega)<es.size:=hm _ (List.getElem_mem _)
    refine zgB (pl:=ps[i]'(by omega)) (kx:=es[ps[i]'(by omega)]) (tk:=0) st.1 st.2.1 st.2.2 ?_ (Array.getElem?_eq_getElem hpi) fun h' hit' hs'=>?_
    · rw [List.getElem?_toArray,List.getElem?_map,List.getElem?_eq_getElem (show i<ps.length by omega)];rfl
    refine hQ _ _ ?_ ⟨hit',st.2.1.at fun o e=>hs'.extBut S o hne e,st.2.2.at fun o e=>hs'.extBut T o hneT e⟩ ⟨fun b o hb e=>hs'.extBut b o (fun q=>hb (by simp [q])) e,rfl,rfl,rfl,Nat.le_refl _⟩
    rw [List.getElem?_map,List.getElem?_eq_getElem (show i<ps.length by omega)]
    simp [Array.getD,hpi]
  done:=fun s Q E st hQ=>by
    have hl:ps.length=es.size:=by rw [hps.length_eq,List.length_range]
    exact wpAny_with_toks (Nat.le_refl s.toks) (yg4 hh st.1 st.2.1 st.2.2 (by rw [List.getElem?_toArray,List.getElem?_eq_none (by simp;omega)]) fun h' tk k htk=>hQ _ ⟨fun b o hb e=>k b o (fun q=>hb (by simp [q])) e,rfl,rfl,rfl,htk⟩)
  self:=fun i s Q E st h=>zch st.1 h
theorem yez {es:Array (Int×Value)} {ps:List Nat} (hps:ps.Perm (List.range es.size)):(ps.map fun p=>(es.getD p (0,.none)).2).Perm (es.toList.map (·.2)):=by
  refine (hps.map _).trans ?_
  have e:(List.range es.size).map (fun p=>(es.getD p (0,Value.none)).2)=es.toList.map (·.2):=by
    apply List.ext_getElem
    · simp
    · intro i h1 h2
      simp at h1
      simp [Array.getD,h1]
  rw [e]
def ygQ (prog:Program) (w:World) (S:Addr) (es:Array (Int×Value)) (s0 s:Shared) (I:Addr):Prop :=
  ∃(vs:List Value) (fp:List Addr) (St:Nat→Shared→Prop),vs.Perm (es.toList.map (·.2))∧(∀A:Around,A.handled=none→WalksS prog w A I fp [I] GE es.size (fun i v=>vs[i]?=some v) St)∧St 0 s∧(∀b∈fp,b<s.heap.objs.size)∧I∈fp∧s.TypeIs (.ref I) "set_iterator"∧
    (∀b o,s0.heap.get? b=some o→s.heap.get? b=some o)∧s0.heap.objs.size≤I∧s.gens=s0.gens∧s.os=s0.os∧s0.toks≤s.toks∧∀b∈fp,b=S∨s0.heap.objs.size≤b
theorem zeu {xs:Array Nat} (h:xs.size≤1):Rise xs:=by
  unfold Rise
  rw [←Array.length_toList] at h
  match xs.toList,h with
  | [],_=>exact .nil
  | [x],_=>exact List.pairwise_singleton _ _
theorem yfR {S:Addr} {o:Obj} {es:Array (Int×Value)} {ep:Nat} {t:SetTable} {Q:Value→Shared→Prop} (ho:s.heap.get? S=some o) (hc:o.cls = .type "set") (hd:o.data = .set es ep t) (hf:t.fits es.size=true) (hb:es.size<scanBound) (hG:TabG (!zbf w) t)
    (hQ:∀I s',ygQ prog w S es s s' I→Q (.ref I) s'):wpAny (model prog w) A (pyIter (.ref S)) Q E s:=by
  have hT:s.TypeIs (.ref S) "set":=⟨o,ho,hc⟩
  have hSlt:=Heap.lt_size ho
  have hz:t.place.size=es.size:=by
    have:=hf
    unfold SetTable.fits at this
    simp only [Bool.and_eq_true,beq_iff_eq] at this
    exact this.1
  refine wpAny_pyIter_slot hT F.slot_set_iter (wpAny_call_entry F.slot_set_iter hT ycE ?_ (F.args_set_iter_1 _))
  unfold Builtin.«frozenset.__iter__» Builtin.Frozenset.slot0 Builtin.Frozenset.sizeOf
  refine wpAny_bind (wpAny_of_eq (a:=S) rfl ?_)
  refine wpAny_bind (wpAny_bind (wpAny_setEntries_of ho hd hf (wpAny_pure ?_)))
  unfold setDrawn setsByText
  refine wpAny_bind (wpAny_bind (wpAny_setState_of ho hd hf ?_))
  dsimp only
  refine wpAny_bind (wpAny_bind (wpAny_askSetting (wpAny_pure (wpAny_pure ?_))))
  refine wpAny_ite_split (fun h=>?_) (fun h=>?_)
  · have h':(!zbf w&&(!t.plain&&decide (es.size>1)))=true:=h
    refine wpAny_bind (ydn _ _ _ _ List.length_range fun ps d' hps=>?_)
    have hlen:ps.length=es.size:=by rw [hps.length_eq,List.length_range]
    refine wpAny_bind (wpAny_newTuple ?_ (by rw [List.length_map,hlen];exact fits_of_scanBound hb))
    have o1:(s.heap.push { cls:=.type "tuple",data:=.seq (ps.map fun (p:Nat)=>rawInt p).toArray }).get? S=some o:=Heap.get?_push_of_some _ ho
    unfold setEpoch
    refine wpAny_bind (wpAny_bind (wpAny_setState_of o1 hd hf (wpAny_pure ?_)))
    unfold newFields
    refine wpAny_bind (wpAny_newObj_type ?_ (by size_fits))
    refine wpAny_pure ⟨_,rfl,"set_iterator",_,⟨_,Heap.get?_push_size _ rfl,rfl⟩,zaq.lookup,hQ _ _ ?_⟩
    have hI:(s.heap.push { cls:=.type "tuple",data:=.seq (ps.map fun (p:Nat)=>rawInt p).toArray }).objs.size=s.heap.objs.size+1:=Heap.size_push _ _
    have e2:∀b o',s.heap.get? b=some o'→((s.heap.push { cls:=.type "tuple",data:=.seq (ps.map fun (p:Nat)=>rawInt p).toArray }).push { cls:=.type "set_iterator",data:=.fields #[.ref s.heap.objs.size,rawInt 0,.ref S,rawInt es.size,rawInt ep] }).get? b=some o':=fun b o' e=>Heap.get?_push_of_some _ (Heap.get?_push_of_some _ e)
    refine ⟨_,[(s.heap.push { cls:=.type "tuple",data:=.seq (ps.map fun (p:Nat)=>rawInt p).toArray }).objs.size,S,s.heap.objs.size],_,yez hps,fun A hh=>yeH (t:=t) (ep:=ep) hh ?_ ?_ hps,⟨⟨_,Heap.get?_push_size _ rfl,rfl,rfl⟩,⟨o,e2 S o ho,hd,hf⟩,⟨_,Heap.get?_push_of_some _ (Heap.get?_push_size _ rfl),rfl,0,rfl⟩⟩,?_,by simp,⟨_,Heap.get?_push_size _ rfl,rfl⟩,e2,?_,rfl,rfl,Nat.le_refl _,?_⟩
    · rw [hI];exact Nat.ne_of_lt (Nat.lt_succ_of_lt hSlt)
    · rw [hI];exact Nat.ne_of_lt (Nat.lt_succ_self _)
    · intro b hb
      simp only [List.mem_cons,List.not_mem_nil,or_false] at hb
      show b<((s.heap.push _).push _).objs.size
      rw [Heap.size_push,hI]
      rcases hb with rfl|rfl|rfl
      · rw [hI];exact Nat.lt_succ_self _
      · exact Nat.lt_succ_of_lt (Nat.lt_succ_of_lt hSlt)
      · exact Nat.lt_succ_of_lt (Nat.lt_succ_self _)
    · show s.heap.objs.size≤(s.heap.push _).objs.size
      rw [hI];exact Nat.le_succ _
    · intro b hb
      simp only [List.mem_cons,List.not_mem_nil,or_false] at hb
      rcases hb with rfl|rfl|rfl
      · right;rw [hI];exact Nat.le_succ _
      · exact .inl rfl
      · exact .inr (Nat.le_refl _)
  · have h':¬ (!zbf w&&(!t.plain&&decide (es.size>1)))=true:=h
    refine wpAny_bind (wpAny_pure ?_)
    unfold setEpoch
    refine wpAny_bind (wpAny_bind (wpAny_setState_of ho hd hf (wpAny_pure ?_)))
    unfold newFields
    refine wpAny_bind (wpAny_newObj_type ?_ (by size_fits))
    refine wpAny_pure ⟨_,rfl,"set_iterator",_,⟨_,Heap.get?_push_size _ rfl,rfl⟩,zaq.lookup,hQ _ _ ?_⟩
    have e2:∀b o',s.heap.get? b=some o'→(s.heap.push { cls:=.type "set_iterator",data:=.fields #[rawInt 0,rawInt 0,.ref S,rawInt es.size,rawInt ep] }).get? b=some o':=fun b o' e=>Heap.get?_push_of_some _ e
    have hin:∀b∈[s.heap.objs.size,S],b<(s.heap.push { cls:=.type "set_iterator",data:=.fields #[rawInt 0,rawInt 0,.ref S,rawInt es.size,rawInt ep] }).objs.size:=by
      intro b hb
      simp only [List.mem_cons,List.not_mem_nil,or_false] at hb
      rw [Heap.size_push]
      rcases hb with rfl|rfl
      · exact Nat.lt_succ_self _
      · exact Nat.lt_succ_of_lt hSlt
    have hin2:∀b∈[s.heap.objs.size,S],b=S∨s.heap.objs.size≤b:=by
      intro b hb
      simp only [List.mem_cons,List.not_mem_nil,or_false] at hb
      rcases hb with rfl|rfl
      · exact .inr (Nat.le_refl _)
      · exact .inl rfl
    by_cases hbt:zbf w=true
    · exact ⟨_,[s.heap.objs.size,S],_,(zcj (w.params.setOrder S ep) es).map _,fun A hh=>yfk (t:=t) (ep:=ep) hh (Nat.ne_of_lt hSlt) hbt,⟨⟨_,Heap.get?_push_size _ rfl,rfl,rfl⟩,⟨o,e2 S o ho,hd,hf⟩⟩,hin,by simp,⟨_,Heap.get?_push_size _ rfl,rfl⟩,e2,Nat.le_refl _,rfl,rfl,Nat.le_refl _,hin2⟩
    · have hbf:zbf w=false:=by simpa using hbt
      have hled:t.led=true:=by rw [hG.led,hbf];rfl
      have hp:t.plain=true∨es.size≤1:=by
        rw [hbf] at h'
        cases hpl:t.plain
        · rw [hpl] at h'
          simp at h'
          exact .inr h'
        · exact .inl rfl
      have hr:Rise t.place:=by
        rcases hp with hp|hp
        · exact hG.rise hp
        · exact zeu (by omega)
      exact ⟨_,[s.heap.objs.size,S],_,List.Perm.refl _,fun A hh=>zeB (t:=t) (ep:=ep) hh (Nat.ne_of_lt hSlt) hbf hled hp hr hz,⟨⟨_,Heap.get?_push_size _ rfl,rfl,rfl⟩,⟨o,e2 S o ho,hd,hf⟩⟩,hin,by simp,⟨_,Heap.get?_push_size _ rfl,rfl⟩,e2,Nat.le_refl _,rfl,rfl,Nat.le_refl _,hin2⟩
end
end L2
end
section
-- text: ExtR
namespace L2
open PySem PyProof.Rows
theorem zdD:typeLookup (.type "set") "__len__"=pure (some (.builtin "set.__len__")):=by rw [typeLookup_type,builtinLookup_eq_fast];kernel_rfl
section
variable {prog:Program} {w:World} {A:Around} {E:Value→Shared→Prop} {s:Shared}
structure Left (s s':Shared):Prop where
  heap:∀b o,s.heap.get? b=some o→s'.heap.get? b=some o
  gens:s'.gens=s.gens
  os:s'.os=s.os
  toks:s.toks≤s'.toks
  size:s.heap.objs.size≤s'.heap.objs.size
theorem zfR {vs:List Value} {n:Nat} {acc:Array Value} (hn:vs.length=n) (h:ItemsOf (fun i v=>vs[i]?=some v) acc n):acc.toList=vs:=by
  refine List.ext_getElem? fun i=>?_
  by_cases c:i<n
  · have h1:acc[i]?=some (acc[i]'(by rw [h.1];exact c)):=Array.getElem?_eq_getElem _
    rw [Array.getElem?_toList,h1]
    exact (h.2 i _ h1).symm
  · rw [Array.getElem?_toList,Array.getElem?_eq_none (by rw [h.1];omega),List.getElem?_eq_none (by omega)]
theorem zdX {S:Addr} {o:Obj} {es:Array (Int×Value)} {ep:Nat} {t:SetTable} {Q:List Value→Shared→Prop} (hh:A.handled=none) (ho:s.heap.get? S=some o) (hc:o.cls = .type "set") (hd:o.data = .set es ep t) (hf:t.fits es.size=true) (hb:es.size<scanBound) (hG:TabG (!zbf w) t)
    (hQ:∀vs s',vs.Perm (es.toList.map (·.2))→Left s s'→Q vs s'):wpAny (model prog w) A (collect (.ref S)) Q E s:=by
  have hSlt:=Heap.lt_size ho
  unfold collect
  refine wpAny_bind (wpAny_runValue (codeAny_builtin F.entry_proto_collect ?_))
  rw [Around.under_plainId F.plain_proto_collect _]
  show wpAny _ A.in1 (newList [] >>= fun l=>again (.builtin "list.__iadd__" ⟨[l,.ref S],[]⟩)) _ _ s
  refine wpAny_bind (wpAny_newObj_type ?_)
  refine wpAny_pure ⟨plainId_quiet F.plain_list_iadd _,codeAny_builtin F.entry_list_iadd ?_⟩
  rw [Around.under_plainId F.plain_list_iadd _]
  have ho1:(s.heap.push { cls:=.type "list",data:=.seq ([]:List Value).toArray }).get? S=some o:=Heap.get?_push_of_some _ ho
  have hS1:(s.heap.push { cls:=.type "list",data:=.seq ([]:List Value).toArray }).get? s.heap.objs.size=some { cls:=.type "list",data:=.seq ([]:List Value).toArray }:=Heap.get?_push_size _ rfl
  have h1:Builtin.List.listSameRef (.ref s.heap.objs.size) (.ref S)=false:=by simp [Builtin.List.listSameRef];exact Nat.ne_of_gt hSlt
  show wpAny _ A.in1 (Builtin.List.listExtendWith (.ref s.heap.objs.size) (.ref S) (.ref s.heap.objs.size)) _ _ _
  unfold Builtin.List.listExtendWith
  refine wpAny_bind (wpAny_typeOf (T:="set") ⟨o,ho1,hc⟩ ?_)
  rw [if_neg (by rw [h1];decide)]
  refine wpAny_bind (yfR ho1 hc hd hf hb hG fun I s2 ⟨vs,fp,St,hp,hW,hst,hfp,hI,hT,hk,hge,hg,hos,htk,hfs⟩=>?_)
  have ho2:=hk S o ho1
  have hS2:=hk _ _ hS1
  refine wpAny_bind (wpAny_holding ?_)
  unfold Builtin.List.listLengthHint
  refine wpAny_bind (wpAny_specialOf (T:="set") ⟨o,ho2,hc⟩ zdD ?_)
  (generalize hid:("set.__len__":String)=id0;(fail_if_success (clear hid id0));wp_delta;rw [show splitId id0=some ("set","__len__") from by subst hid;decide +kernel];subst hid)
  refine wpAny_bind (wpAny_isInstance (T:="set") (b:=true) ⟨o,ho2,hc⟩ (by rw [isSubtype_type];kernel_rfl) ?_)
  refine wpAny_ite_split (fun h=>absurd h (by decide)) (fun _=>?_)
  refine wpAny_ite_split (fun _=>?_) (fun h=>(h (by decide +kernel)).elim)
  refine wpAny_bind (wpAny_typeOf (T:="set") ⟨o,ho2,hc⟩ ?_)
  refine wpAny_pure ?_
  refine wpAny_ite_split (fun _=>?_) (fun h=>(h (by decide +kernel)).elim)
  refine wpAny_bind (wpAny_rule ?_)
  refine wpAny_bind ?_
  show wpAny _ A.in1 (updateSeq s.heap.objs.size (·.push .none) >>= fun _=>updateSeq s.heap.objs.size (·.pop)) _ _ _
  refine wpAny_bind (wpAny_updateSeq hS2 rfl ?_)
  have hS3:=Heap.get?_update_self (Obj.mapSeq (·.push Value.none)) hS2 rfl
  refine wpAny_updateSeq hS3 rfl ?_
  have hS4:=Heap.get?_update_self (Obj.mapSeq (·.pop)) hS3 rfl
  have hlt:s.heap.objs.size<I:=by
    have:=hge
    rw [show (s.heap.push { cls:=.type "list",data:=.seq ([]:List Value).toArray }).objs.size=s.heap.objs.size+1 from Heap.size_push _ _] at this
    exact this
  have W:=hW A.in1 hh
  have hSf:s.heap.objs.size∉fp:=fun hm=>by
    rcases hfs _ hm with h|h
    · exact absurd h (Nat.ne_of_gt hSlt)
    · rw [show (s.heap.push { cls:=.type "list",data:=.seq ([]:List Value).toArray }).objs.size=s.heap.objs.size+1 from Heap.size_push _ _] at h
      exact absurd h (Nat.not_succ_le_self _)
  have oth:∀b o',b≠s.heap.objs.size→s2.heap.get? b=some o'→((s2.heap.update s.heap.objs.size (Obj.mapSeq (·.push Value.none))).update s.heap.objs.size (Obj.mapSeq (·.pop))).get? b=some o' :=
    fun b o' hb e=>(Heap.get?_update_other _ _ (Ne.symm hb)).trans ((Heap.get?_update_other _ _ (Ne.symm hb)).trans e)
  have hlen:vs.length=es.size:=by rw [hp.length_eq,List.length_map,Array.length_toList]
  refine wpAny_pure ⟨plainId_quiet F.plain_extend_loop _,codeAny_extend_loopS W (fits_of_scanBound hb) _ hSf _ es.size 0 _ _ _ rfl (Nat.zero_le _)
    (W.frame 0 s2 _ s2.toks hst (Nat.le_refl _) fun b hb o e=>oth b o (fun h=>hSf (h ▸ hb)) e) hS4 (ItemsOf.nil _) fun s' acc' c' hm hS' hacc=>?_⟩
  show wpAny _ A (load s.heap.objs.size >>= _) _ _ s'
  refine wpAny_bind (wpAny_load hS' ?_)
  refine wpAny_pure ?_
  rw [zfR hlen hacc]
  refine hQ vs s' hp ⟨fun b o' e=>?_,?_,?_,?_,Nat.le_of_lt (Heap.lt_size hS')⟩
  · have hb:=Heap.lt_size e
    refine hm.heap b o' ?_ (oth b o' (Nat.ne_of_lt hb) (hk b o' (Heap.get?_push_of_some _ e)))
    simp only [List.mem_cons,List.not_mem_nil,or_false,not_or]
    exact ⟨Nat.ne_of_lt hb,Nat.ne_of_lt (Nat.lt_trans hb hlt)⟩
  · exact hm.gens.trans hg
  · exact hm.os.trans hos
  · exact Nat.le_trans htk hm.toks
end
end L2
end
section
-- text: ExtS
namespace L2
open PySem PyProof.Rows
theorem zbQ {α:Type} [BEq α] [LawfulBEq α]:∀ {σ τ:List α},σ.Nodup→(∀x∈σ,x∈τ)→σ.length≤τ.length
  | [],_,_,_=>Nat.zero_le _
  | x::σ,τ,h,hs=>by
    have hx:x∈τ:=hs x List.mem_cons_self
    have h2:=List.nodup_cons.mp h
    have:=zbQ (σ:=σ) (τ:=τ.erase x) h2.2 fun y hy=>(List.mem_erase_of_ne (fun e=>h2.1 (by rw [←e];exact hy))).mpr (hs y (List.mem_cons_of_mem _ hy))
    rw [List.length_erase_of_mem hx] at this
    have hp:0 < τ.length:=List.length_pos_of_mem hx
    simp only [List.length_cons]
    omega
theorem ycO {α:Type} [BEq α] [LawfulBEq α]:∀ {σ τ:List α},σ.Nodup→(∀x∈σ,x∈τ)→τ.length≤σ.length→σ.Perm τ
  | [],τ,_,_,hl=>by
    have:τ=[]:=List.length_eq_zero_iff.mp (by simpa using hl)
    rw [this]
  | x::σ,τ,h,hs,hl=>by
    have hx:x∈τ:=hs x List.mem_cons_self
    have h2:=List.nodup_cons.mp h
    have ih:=ycO (σ:=σ) (τ:=τ.erase x) h2.2 (fun y hy=>(List.mem_erase_of_ne (fun e=>h2.1 (by rw [←e];exact hy))).mpr (hs y (List.mem_cons_of_mem _ hy))) (by rw [List.length_erase_of_mem hx];simp at hl;omega)
    exact (List.Perm.cons x ih).trans (List.perm_cons_erase hx).symm
theorem ybh (val:Nat→Int):∀i,(firstMet val i).Nodup
  | 0=>List.nodup_nil
  | i+1=>by
    rw [firstMet_succ]
    unfold step_dedup
    split
    · exact ybh val i
    · rename_i hn
      refine List.nodup_append.mpr ⟨ybh val i,by simp,fun a ha b hb=>?_⟩
      rw [List.mem_singleton] at hb
      intro e
      exact hn (List.any_eq_true.mpr ⟨a,ha,by rw [e,hb];exact beq_self_eq_true _⟩)
theorem zbB (ns:List Int) (k:Int):k∈firstMet (fun i=>ns.getD i 0) ns.length↔k∈ns:=by
  have h:=firstMet_any (fun i=>ns.getD i 0) ns.length k
  have e:(List.range ns.length).map (fun i=>ns.getD i 0)=ns:=by
    apply List.ext_getElem
    · simp
    · intro i h1 h2
      simp [List.getD,h2]
  rw [e] at h
  have c:∀l:List Int,l.any (·==k)=true↔k∈l:=fun l=>by
    rw [List.any_eq_true]
    exact ⟨fun ⟨x,hx,q⟩=>by rw [←eq_of_beq q];exact hx,fun hk=>⟨k,hk,beq_self_eq_true _⟩⟩
  rw [←c,←c,h]
section
variable {prog:Program} {w:World} {A:Around} {E:Value→Shared→Prop} {s:Shared}
theorem zcR:∀ {vs:List Value},(∀v∈vs,∃k t,v = .int k t)→∃ns,IntsAre vs ns∧∀k,k∈ns↔∃v∈vs,∃t,v = .int k t
  | [],_=>⟨[],.nil,fun k=>⟨fun h=>(nomatch h),fun ⟨v,h,_⟩=>(nomatch h)⟩⟩
  | v::vs,h=>by
    obtain ⟨ns,hn,hm⟩:=zcR fun v' hv=>h v' (List.mem_cons_of_mem _ hv)
    obtain ⟨k,t,rfl⟩:=h v List.mem_cons_self
    refine ⟨k::ns,.cons k t hn,fun k'=>⟨fun hk=>?_,fun ⟨v',hv,t',e⟩=>?_⟩⟩
    · rcases List.mem_cons.mp hk with rfl|hk
      · exact ⟨_,List.mem_cons_self,t,rfl⟩
      · obtain ⟨v',hv,t',e⟩:=(hm k').mp hk
        exact ⟨v',List.mem_cons_of_mem _ hv,t',e⟩
    · rcases List.mem_cons.mp hv with rfl|hv
      · cases e;exact List.mem_cons_self
      · exact List.mem_cons_of_mem _ ((hm k').mpr ⟨v',hv,t',e⟩)
theorem yeB {S:Addr} {Sm:Int→Bool} {n:Nat} {Q:Value→Shared→Prop} (hh:A.handled=none) (hS:SetG w prog s.heap S Sm n) (h64:n<64)
    (hQ:∀(h':Heap) (d':Drawn) (tk:Nat) (L:Addr) (ns':List Int) (out:Array Value) (e:Nat),IntsAre out.toList ns'→ns'.length=n→(∀k,k∈ns'↔Sm k=true)→ns'.Pairwise (·≤·)→(∀b o,s.heap.get? b=some o→h'.get? b=some o)→s.heap.objs.size≤L→
      h'.get? L=some (seqObj "list" out e)→Q (.ref L) { heap:=h',gens:=s.gens,drawn:=d',toks:=tk,os:=s.os }) :
    wpAny (model prog w) A (call (.builtin "sorted") [.ref S]) Q E s:=by
  obtain ⟨o,es,ep,t,ho,hex,hd,hel,hmem,hb,hf,hn,hG⟩:=hS
  refine Calls.call_function_entry kind_sorted plain_sorted entry_sorted (args_sorted1 _) ?_
  unfold Builtin.«sorted»
  refine wpAny_bind (m:=checkCount "sorted" 1 1 _) (wpAny_pure ?_)
  refine wpAny_bind (zdX (by simp [hh]) ho hex.1 hd hf hb hG fun vs s2 hp hL=>?_)
  have hall:∀v∈vs,∃k t,v = .int k t:=fun v hv=>by
    obtain ⟨e,he,rfl⟩:=List.mem_map.mp (hp.mem_iff.mp hv)
    obtain ⟨⟨k,hk,_⟩,_⟩:=hel e he
    obtain ⟨t,ht⟩:=Value.isInt_shape hk
    exact ⟨k,t,ht⟩
  obtain ⟨ns,hI,hm⟩:=zcR hall
  have hl:vs.length=n:=by rw [hp.length_eq,List.length_map,Array.length_toList,hn]
  refine wpAny_bind (wpAny_newList ?_)
  have hoL:(s2.heap.push (seqObj "list" vs.toArray 0)).get? s2.heap.objs.size=some (seqObj "list" vs.toArray 0):=Heap.get?_push_size _ rfl
  refine wpAny_bind (wpAny_holding (wpAny_call_entry slot_list_sort ⟨_,hoL,rfl⟩ entry_list_sort (list_sort_tree hoL hI (by omega) fun out ns' a1 a2 a3=>⟨_,rfl,?_⟩) (args_list_sort _)))
  refine wpAny_pure ⟨_,rfl,?_⟩
  obtain ⟨e,he⟩:=sortedHeap_at (out:=out) hoL
  have hle:=hL.size
  have hk:=hL.heap
  have hg:=hL.gens
  have hos:=hL.os
  obtain ⟨h2,g2,d2,t2,o2⟩:=s2
  dsimp only at hg hos
  subst hg;subst hos
  refine hQ _ _ _ _ ns' out e a1 ?_ ?_ a3 (fun b ob eb=>?_) hle he
  · rw [a2.length_eq,←IntsAre.length hI];exact hl
  · intro k
    rw [a2.mem_iff,hm,hmem]
    constructor
    · rintro ⟨v,hv,t',rfl⟩
      obtain ⟨e',he',q⟩:=List.mem_map.mp (hp.mem_iff.mp hv)
      exact ⟨e',he',by rw [q];exact intKind_is _ _ _ _⟩
    · rintro ⟨e',he',q⟩
      obtain ⟨t',ht⟩:=Value.isInt_shape q
      exact ⟨e'.2,hp.mem_iff.mpr (List.mem_map_of_mem he'),t',ht⟩
  · have hlt:=Heap.lt_size (hk b ob eb)
    rw [sortedHeap_old (Nat.ne_of_lt hlt) (by rw [show (h2.push (seqObj "list" vs.toArray 0)).objs.size=h2.objs.size+1 from Heap.size_push _ _];exact Nat.lt_succ_of_lt hlt)]
    exact Heap.get?_push_of_some _ (hk b ob eb)
end
end L2
end
section
-- text: ExtT
namespace L2
open PySem PyProof.Rows
theorem zd4:bootBuiltins "set"=some (.type "set"):=by decide +kernel
theorem ybH:bootBuiltins "sorted"=some (.builtin "sorted"):=by decide +kernel
section
variable {X:Cx}
theorem Inv.redraw {pins:List (Addr×Obj)} {σ:St} {H:Hp} {s s':Shared} (I:Inv X pins σ H s) (h1:s'.heap=s.heap) (h2:s'.gens=s.gens) (h3:s'.os=s.os):Inv X pins σ H s' :=
  ⟨I.ok,by rw [h3];exact I.os,by rw [h2];exact I.bare,by rw [h1];exact I.base,by rw [h1];exact I.loc,by rw [h1];exact I.cell,I.free,I.freeC,by rw [h1];exact I.pin,by rw [h1];exact I.hok,I.len⟩
theorem Inv.more {pins:List (Addr×Obj)} {σ:St} {H:Hp} {s:Shared} {h':Heap} {tk:Nat} (I:Inv X pins σ H s) (k:∀b o,s.heap.get? b=some o→h'.get? b=some o):Inv X pins σ H { s with heap:=h',toks:=tk } :=
  I.turnedL (fp:=[]) (fun b hb=>nomatch hb) fun b o _ e=>k b o e
def zfQ (K:PySem.W.Frag) (te:TE):TE:=fun σ H Q=>te σ H fun x H1=>∃(a:Addr) (ns:List Int),x = .ref a∧SqL K H1 a (ns.map V.int)∧ns.length<4000∧(∀ks:List Int,ks.Nodup→(∀k∈ks,k∈ns)→ks.length<64)∧
  ∀(l:Addr) (ns':List Int),H1 l=none→ns'.Pairwise (· < ·)→(∀k,k∈ns'↔k∈ns)→Q (.ref l) (upd H1 l (.lst (ns'.map V.int)))
theorem zcG {e:Expr} {te:TE} {p1 p2 pos pos2:Pos} (hc:X.calm=true) (hg1:Gl X "sorted") (hm1:X.mg "sorted"=none) (hg2:Gl X "set") (hm2:X.mg "set"=none) (he:PE X e te)
    (hs:starEach [e] X.env=[(false,eval e X.env)]:=by rfl) (hs2:starEach [.Call (.Name "set" p2) [e] [] pos2] X.env=[(false,eval (.Call (.Name "set" p2) [e] [] pos2) X.env)]:=by rfl) :
    PE X (.Call (.Name "sorted" p1) [.Call (.Name "set" p2) [e] [] pos2] [] pos) (zfQ X.K te):=by
  intro pins s σ H Q I h
  refine wpAny_Call_Name_kw (ybu I hg1 hm1 ybH ?_ (by decide) (by decide))
  refine PyProof.Rows.callWith_builtin1 ?_ hs2 rfl
  rw [hs2]
  show wpAny _ _ (spliced ((false,eval (.Call (.Name "set" p2) [e] [] pos2) X.env)::[])) _ _ s
  refine Calls.spliced_cons ?_
  refine wpAny_Call_Name_kw (ybu I hg2 hm2 zd4 ?_ (by decide) (by decide))
  refine PyProof.Rows.callWith_type1 ?_ hs rfl
  rw [hs]
  show wpAny _ _ (spliced ((false,eval e X.env)::[])) _ _ s
  refine Calls.spliced_cons (thn (he pins s σ H _ I h) fun u s1 ⟨x,H1,I1,r1,a,ns,ex,ha,hl,h64,q⟩=>?_)
  subst ex
  cases r1
  refine Calls.spliced_nil ?_
  obtain ⟨its,r2,p2,z2⟩:=I1.list ha
  have hlen:=r2.length
  rw [List.length_map] at hlen
  have hh:=I1.ok.hd hc
  refine yeC hh p2.isList (by simpa using zc4 r2) (by rw [List.size_toArray];unfold scanBound;omega) fun h2 tk2 hS hk=>?_
  refine Calls.spliced_nil ?_
  have I2:Inv X pins σ H1 { s1 with heap:=h2,toks:=tk2 }:=I1.more hk
  have hsz:its.toArray.size=ns.length:=by rw [List.size_toArray,hlen]
  rw [hsz] at hS
  have hfm:=ybh (fun i=>ns.getD i 0) ns.length
  refine yeB (s:={ s1 with heap:=h2,toks:=tk2 }) hh hS (h64 _ hfm fun k hk=>(zbB ns k).mp hk) fun h3 d3 tk3 L ns' out e3 b1 b2 b3 b4 b5 b6 b7=>?_
  have hmem:∀k,k∈ns'↔k∈firstMet (fun i=>ns.getD i 0) ns.length:=fun k=>by
    rw [b3]
    constructor
    · intro h
      obtain ⟨y,hy,q⟩:=List.any_eq_true.mp h
      rw [←eq_of_beq q];exact hy
    · intro h;exact List.any_eq_true.mpr ⟨k,h,beq_self_eq_true _⟩
  have hnd:ns'.Nodup:=(ycO hfm (fun k hk=>(hmem k).mpr hk) (by rw [b2];exact Nat.le_refl _)).nodup_iff.mp hfm
  have hlt:ns'.Pairwise (· < ·):=by
    refine List.Pairwise.imp₂ (fun a b h1 h2=>?_) b4 hnd
    omega
  have r3:Vals (ns'.map V.int) out.toList:=yb6 b1
  have I3:Inv X pins σ (upd H1 L (.lst (ns'.map V.int))) { s1 with heap:=h3,toks:=tk3 }:=I2.laid (a:=L) (t':=tk3) (o:=.lst (ns'.map V.int)) b5 b6 ⟨?_,out.toList,e3,r3,?_⟩
  · refine ⟨.ref L,_,I3.redraw rfl rfl rfl,rfl,q L ns' (I2.hok.fresh b6) hlt fun k=>(hmem k).trans (zbB ns k)⟩
  · rw [List.length_map,b2]
    have:=h64 _ hfm fun k hk=>(zbB ns k).mp hk
    have:=sizeLine_eq
    omega
  · rw [b7]
end
end L2
end
section
-- text: ExtU
namespace L2
open PySem PySem.Spec PyProof.Rows
section
variable {X:Cx}
def zhl (K:PySem.W.Frag):List V→Hp→VK→Prop:=fun vs H Q=>∃(a:Addr) (ns:List Int),vs=[.ref a]∧SqL K H a (ns.map V.int)∧0<ns.length∧∀M,M∈ns→(∀a∈ns,a≤M)→Q (.int M) H
theorem zfh (hc:X.calm=true):zbG X (.builtin "max") (zhl X.K):=by
  intro pins s σ H xs us Q I r h
  obtain ⟨a,ns,rfl,ha,hl,q⟩:=h
  obtain ⟨u,rfl,rx⟩:=zcv r
  cases rx
  obtain ⟨its,r1,p1,z1⟩:=I.list ha
  have hi:IntsAre its ns:=zc4 r1
  have hlist:=p1.isList
  obtain ⟨ys,e⟩:=hi.allInts.items
  have hns:ns=ys.toList.map (·.1):=by rw [←hi.numsOf,←nums_intItems,←e]
  have hsz:0<ys.size:=by
    have h3:=hl;rw [hns,List.length_map,Array.length_toList] at h3;exact h3
  rw [e] at hlist
  refine max_intList (I.ok.hd hc) hlist hsz fun v h' tk hv hk=>?_
  obtain ⟨t,rfl⟩:=intItems_at hv
  obtain ⟨h1,h2⟩:=argBest_gt (numAt ys) (ys.size-1)
  refine ⟨.int _,H,I.more (fun b o eb=>hk b o eb),yeo _ _,q _ ?_ fun b hb=>?_⟩
  · rw [hns,numAt_eq];exact getD_mem (by rw [List.length_map,Array.length_toList];omega)
  · rw [hns] at hb
    obtain ⟨j,hj,rfl⟩:=mem_getD hb
    rw [List.length_map,Array.length_toList] at hj
    rw [←numAt_eq];exact h2 j (by omega)
end
end L2
end
section
-- text: ExtV
namespace HT
open PySem PyProof.Rows
section
variable {prog:Program} {w:World} {A:Around} {E:Value→Shared→Prop} {s:Shared}
end
end HT
namespace L2
open PySem PyProof.Rows
section
variable {X:Cx}
end
end L2
end
section
-- text: ExtW
namespace HT
open PySem PyProof.Rows
section
variable {prog:Program} {w:World} {A:Around} {E:Value→Shared→Prop} {s:Shared}
theorem getItem_tuple_whole {t sl:Addr} {items:Array Value} {vl vu:Value} {lo hi:Option Int} {Q:Value→Shared→Prop} (ht:IsTup s.heap t items) (hs:s.heap.IsSliceOf sl vl vu .none) (pl:IsPart vl lo) (pu:IsPart vu hi)
    (hw:sIx items.size 0 lo=0∧sIx items.size items.size hi=items.size) (h:Q (.ref t) s):wpAny (model prog w) A (getItem (.ref t) (.ref sl)) Q E s:=by
  obtain ⟨os,hos,hcs,hds⟩:=id hs
  have hTs:s.TypeIs (.ref sl) "slice":=⟨os,hos,hcs⟩
  unfold getItem
  try with_reducible refine wpAny_holding ?_
  first|refine wpAny_bind (wpAny_pure ?_)|skip
  refine wpAny_bind (wpAny_sequenceKey ht.typeIs (by decide) ?_)
  refine wpAny_bind (wpAny_callSpecial?_slot (name:=Str.ofString "__getitem__") ht.typeIs PyProof.Rows.slot_tuple_getitem
    (wpAny_call_entry PyProof.Rows.slot_tuple_getitem ht.typeIs entry_tuple_getitem ?_ (args_tuple_getitem _ _)))
  show wpAny _ _ (Builtin.Tuple.tupleItemsOf (.ref t) >>= _) _ _ s
  refine wpAny_bind (tupleItemsOf_ ht ?_)
  refine wpAny_bind (wpAny_typeOf hTs ?_)
  rw [if_pos (by decide)]
  refine wpAny_bind (zbu hs pl pu ?_)
  have hyes:(((sIx items.size 0 lo:Nat):Int)==0&&(1:Int)==1&&(sIx items.size items.size hi-sIx items.size 0 lo)==items.size)=true:=by
    rw [hw.1,hw.2,Nat.sub_zero];simp
  show wpAny _ _ (if (((sIx items.size 0 lo:Nat):Int)==0&&(1:Int)==1&&(sIx items.size items.size hi-sIx items.size 0 lo)==items.size)=true then _ else _) _ _ s
  rw [if_pos hyes]
  unfold Builtin.Tuple.tupleIsExact
  refine wpAny_bind (wpAny_bind (wpAny_typeOf ht.typeIs (wpAny_pure ?_)))
  rw [if_pos (by decide)]
  first
    | exact wpAny_bind (wpAny_rule (wpAny_pure ⟨_,rfl,wpAny_pure h⟩))
    | exact wpAny_bind (wpAny_bind (wpAny_rule (wpAny_pure (wpAny_pure ⟨_,rfl,wpAny_pure h⟩))))
    | exact wpAny_bind (wpAny_rule (wpAny_bind (wpAny_pure (wpAny_pure ⟨_,rfl,wpAny_pure h⟩))))
    | (refine wpAny_bind (wpAny_rule ?_);trace_state;exact wpAny_pure h)
end
end HT
namespace L2
open PySem PyProof.Rows
section
variable {X:Cx}
def rSlA (K:PySem.W.Frag):V→Option Int→Option Int→Hp→VK→Prop:=fun x lo hi H Q=>∃a xs,x = .ref a∧SqT K H a xs∧(cutV xs lo hi=xs→Q (.ref a) H)∧∀p,H p=none→Q (.ref p) (upd H p (.tup (cutV xs lo hi)))
theorem yeK:SlR X (rSlA X.K):=by
  intro pins s σ H x v vl vu lo hi sl Q I rx hs pl pu h
  obtain ⟨a,xs,rfl,hx,q1,q⟩:=h
  by_cases hw:HT.sIx xs.length 0 lo=0∧HT.sIx xs.length xs.length hi=xs.length
  · cases rx
    obtain ⟨its,r,ht,hz⟩:=I.tuple hx
    have hlen:its.toArray.size=xs.length:=by rw [List.size_toArray];exact r.length.symm
    refine ⟨"tuple",_,PyProof.Rows.slot_tuple_getitem.lookup,ht.typeIs,?_⟩
    refine HT.getItem_tuple_whole ht hs pl pu (by rw [hlen];exact hw) ?_
    exact ⟨.ref a,H,I,rfl,q1 (by unfold cutV;rw [hw.1,hw.2,Nat.sub_zero,List.drop_zero,List.take_length])⟩
  · exact ygL pins s σ H _ v vl vu lo hi sl Q I rx hs pl pu ⟨a,xs,rfl,hx,hw,q⟩
end
end L2
end
section
-- text: ExtX
namespace L2
open PySem PySem.Spec PyProof.Rows
section
variable {X:Cx}
end
end L2
end
section
-- text: ExtY
namespace L2
open PySem PySem.Spec PyProof.Rows
section
variable {X:Cx}
end
end L2
namespace L2
open PySem PySem.Spec PyProof.Rows
section
variable {X:Cx} {K:PySem.W.Frag}
end
end L2
end
section
-- text: ExtZ
namespace L2
open PySem PySem.Spec PyProof.Rows
section
variable {X:Cx}
end
structure DOk (d:PyData) (w:Nat):Prop where
  sh:d.showable=true
  nd:d.hasDict=false
  dp:d.depth≤40
  sl:d.leavesShort 8=true
  we:d.weight≤w
section
variable {X:Cx}
end
end L2
end
section
-- text: ExtRa
namespace L2
open PySem PySem.Spec PyProof.Rows
section
variable {prog:Program} {w:World} {A:Around} {E:Value→Shared→Prop} {s:Shared}
end
section
variable {X:Cx}
end
end L2
end
section
-- text: ExtRb
namespace L2
open PySem PySem.Spec PyProof.Rows
section
variable {X:Cx}
end
end L2
end
section
-- text: ExtRc
namespace L2
open PySem PySem.Spec PyProof.Rows
section
variable {X:Cx} {pins:List (Addr×Obj)} {σ:St} {H:Hp} {s:Shared} {a:Addr}
end
section
variable {X:Cx} {tg:Expr}
end
end L2
end
section
-- text: MathA
set_option autoImplicit false
namespace Dg
def dg (p i x:Nat):Nat:=x/p^i%p
theorem zbi (p x:Nat):dg p 0 x=x%p:=by simp [dg]
theorem zbp (p i x:Nat):dg p (i+1) x=dg p i (x/p):=by
  unfold dg;rw [Nat.pow_succ,Nat.mul_comm,Nat.div_div_eq_div_mul]
theorem zg6 {p:Nat} (hp:2≤p) (i x:Nat):dg p i x<p:=Nat.mod_lt _ (by omega)
theorem zas {p:Nat} (hp:2≤p) {i k x:Nat} (h:x<p^k) (hk:k≤i):dg p i x=0:=by
  unfold dg
  have:x<p^i:=Nat.lt_of_lt_of_le h (Nat.pow_le_pow_right (by omega) hk)
  rw [Nat.div_eq_of_lt this,Nat.zero_mod]
theorem zbh (p i:Nat):dg p i 0=0:=by simp [dg]
theorem ext {p:Nat} (hp:2≤p):∀ {a b:Nat},(∀i,dg p i a=dg p i b)→a=b:=by
  intro a
  induction a using Nat.strongRecOn with
  | _ a ih =>
    intro b h
    have h0:=h 0
    rw [zbi,zbi] at h0
    by_cases ha:a=0
    · subst ha
      have key:∀n,∀b,b≤n→(∀i,dg p i b=0)→b=0:=by
        intro n
        induction n with
        | zero=>intro b hb _;omega
        | succ n ihn =>
          intro b hb hz
          by_cases hb0:b=0
          · exact hb0
          · have hlt:b/p<b:=Nat.div_lt_self (by omega) (by omega)
            have hd:b/p=0:=ihn (b/p) (by omega) fun i=>by rw [←zbp];exact hz (i+1)
            have hm:b%p=0:=by rw [←zbi];exact hz 0
            have:=Nat.div_add_mod b p
            rw [hd,hm] at this
            simpa using this.symm
      exact (key b b (Nat.le_refl _) fun i=>by rw [←h i,zbh]).symm
    · have hlt:a/p<a:=Nat.div_lt_self (by omega) (by omega)
      have hd:a/p=b/p:=ih (a/p) hlt fun i=>by rw [←zbp,←zbp];exact h (i+1)
      have e1:=Nat.div_add_mod a p
      have e2:=Nat.div_add_mod b p
      rw [←e1,←e2,hd,h0]
theorem yb2 {p:Nat} (hp:2≤p) {j r:Nat} (h:∀i,j≤i→dg p i r=0):r<p^j:=by
  have hpos:0<p^j:=Nat.pow_pos (by omega)
  have hq:r/p^j=0:=by
    refine ext hp fun i=>?_
    rw [zbh]
    have:=h (j+i) (by omega)
    unfold dg at this ⊢
    rw [Nat.pow_add,←Nat.div_div_eq_div_mul] at this
    exact this
  have:=Nat.div_add_mod r (p^j)
  rw [hq,Nat.mul_zero,Nat.zero_add] at this
  rw [←this]
  exact Nat.mod_lt _ hpos
theorem zgf {p:Nat} (hp:2≤p) {k t d:Nat} (ht:t<p^k) (hd:d<p) (i:Nat):dg p i (t+d*p^k)=if i=k then d else dg p i t:=by
  have hpos:0<p^k:=Nat.pow_pos (by omega)
  unfold dg
  by_cases h1:i<k
  · rw [if_neg (by omega)]
    obtain ⟨c,rfl⟩:∃c,k=i+(c+1):=⟨k-i-1,by omega⟩
    have e:d*p^(i+(c+1))=p^i*(d*p^c*p):=by rw [Nat.pow_add,Nat.pow_succ];ac_rfl
    rw [e,Nat.add_mul_div_left _ _ (Nat.pow_pos (by omega)),Nat.add_mul_mod_self_right]
  · by_cases h2:i=k
    · subst h2
      rw [if_pos rfl,Nat.add_mul_div_right _ _ hpos,Nat.div_eq_of_lt ht,Nat.zero_add,Nat.mod_eq_of_lt hd]
    · rw [if_neg h2]
      have hlt:t+d*p^k<p^i:=by
        have:t+d*p^k<p^(k+1):=by
          rw [Nat.pow_succ]
          calc t+d*p^k<p^k+d*p^k:=by omega
            _=(d+1)*p^k:=by rw [Nat.add_mul];omega
            _≤p*p^k:=Nat.mul_le_mul_right _ hd
            _=p^k*p:=Nat.mul_comm _ _
        exact Nat.lt_of_lt_of_le this (Nat.pow_le_pow_right (by omega) (by omega))
      rw [Nat.div_eq_of_lt hlt,Nat.div_eq_of_lt (Nat.lt_of_lt_of_le ht (Nat.pow_le_pow_right (by omega) (by omega)))]
theorem zgb {p:Nat} {k t d:Nat} (ht:t<p^k) (hd:d<p):t+d*p^k<p^(k+1):=by
  rw [Nat.pow_succ]
  calc t+d*p^k<p^k+d*p^k:=by omega
    _=(d+1)*p^k:=by rw [Nat.add_mul];omega
    _≤p*p^k:=Nat.mul_le_mul_right _ hd
    _=p^k*p:=Nat.mul_comm _ _
def yaJ (f:Nat→Nat):Nat→Nat:=fun i=>if i=0 then 0 else f (i-1)
def yaA (m:Nat) (t f:Nat→Nat):Nat→Nat:=fun i=>if i<m then yaJ f i+f (m-1)*t i else 0
def tn (m:Nat) (t:Nat→Nat):Nat→(Nat→Nat)→(Nat→Nat)→Nat→Nat
  | 0,_,_=>fun _=>0
  | k+1,f,y=>fun i=>f 0*y i+tn m t k (fun j=>f (j+1)) (yaA m t y) i
def zbs (m:Nat) (t:Nat→Nat) (q:Nat) (f:Nat→Nat):Nat→Nat:=fun i=>f i+if q-m≤i∧i<q then f q*t (i-(q-m)) else 0
def redF (m:Nat) (t:Nat→Nat):Nat→(Nat→Nat)→(Nat→Nat)
  | 0,f=>f
  | j+1,f=>redF m t j (zbs m t (m+j) f)
def zdc:Nat→(Nat→Nat)→(Nat→Nat)→Nat→Nat
  | 0,_,_=>fun _=>0
  | k+1,f,y=>fun i=>f 0*y i+yaJ (zdc k (fun j=>f (j+1)) y) i
section
variable {m:Nat} {t:Nat→Nat}
theorem zeM (q c:Nat) (f g:Nat→Nat):zbs m t q (fun i=>c*f i+g i)=fun i=>c*zbs m t q f i+zbs m t q g i:=by
  funext i
  unfold zbs
  split
  · dsimp only;rw [Nat.mul_add,Nat.add_mul];ac_rfl
  · simp
theorem yd9 (c:Nat):∀(j:Nat) (f g:Nat→Nat),redF m t j (fun i=>c*f i+g i)=fun i=>c*redF m t j f i+redF m t j g i
  | 0,f,g=>rfl
  | j+1,f,g=>by
    show redF m t j (zbs m t (m+j) fun i=>c*f i+g i)=_
    rw [zeM,yd9 c j]
    rfl
theorem zdL {q:Nat} (hq:m≤q) (f:Nat→Nat):zbs m t (q+1) (yaJ f)=yaJ (zbs m t q f):=by
  funext i
  unfold zbs yaJ
  by_cases h0:i=0
  · subst h0
    rw [if_pos rfl,if_pos rfl]
    rw [if_neg (by omega)]
  · rw [if_neg h0,if_neg h0,if_neg (show ¬ q+1=0 by omega)]
    congr 1
    by_cases h1:q-m≤i-1∧i-1<q
    · rw [if_pos h1,if_pos (by omega),Nat.add_sub_cancel]
      congr 2
      omega
    · rw [if_neg h1,if_neg (by omega)]
theorem zcL (hm:1≤m):∀(j:Nat) (f:Nat→Nat) (i:Nat),i<m→redF m t (j+1) (yaJ f) i=yaA m t (redF m t j f) i
  | 0,f,i,hi=>by
    show zbs m t (m+0) (yaJ f) i=yaA m t f i
    unfold zbs yaA
    rw [if_pos hi,if_pos (by omega)]
    congr 1
    show yaJ f (m+0)*t (i-(m+0-m))=_
    unfold yaJ
    rw [if_neg (by omega)]
    simp
  | j+1,f,i,hi=>by
    show redF m t (j+1) (zbs m t (m+(j+1)) (yaJ f)) i=yaA m t (redF m t j (zbs m t (m+j) f)) i
    rw [←zcL hm j (zbs m t (m+j) f) i hi,←zdL (by omega)]
    rfl
theorem yea:∀(j:Nat) (f:Nat→Nat),(∀q,m≤q→f q=0)→redF m t j f=f
  | 0,f,_=>rfl
  | j+1,f,h=>by
    have e:zbs m t (m+j) f=f:=by
      funext i
      unfold zbs
      rw [h (m+j) (by omega)]
      simp
    show redF m t j (zbs m t (m+j) f)=f
    rw [e]
    exact yea j f h
theorem ydH (c:Nat) (f g:Nat→Nat):yaA m t (fun i=>c*f i+g i)=fun i=>c*yaA m t f i+yaA m t g i:=by
  funext i
  unfold yaA yaJ
  split
  · split
    · simp [Nat.mul_add,Nat.add_mul,Nat.mul_assoc]
    · dsimp only;rw [Nat.mul_add,Nat.add_mul];ac_rfl
  · simp
theorem yd7:∀(k:Nat) (f y:Nat→Nat),yaA m t (tn m t k f y)=tn m t k f (yaA m t y)
  | 0,f,y=>by
    funext i
    show yaA m t (fun _=>0) i=0
    unfold yaA yaJ
    split
    · split <;> simp
    · rfl
  | k+1,f,y=>by
    show yaA m t (fun i=>f 0*y i+tn m t k (fun j=>f (j+1)) (yaA m t y) i)=_
    rw [ydH,yd7 k]
    rfl
theorem zeb (hm:1≤m):∀(k:Nat) (f y:Nat→Nat),(∀q,m≤q→y q=0)→∀i,i<m→redF m t k (zdc (k+1) f y) i=tn m t (k+1) f y i
  | 0,f,y,hy,i,hi=>by
    show f 0*y i+yaJ (fun _=>0) i=f 0*y i+0
    unfold yaJ
    split <;> rfl
  | k+1,f,y,hy,i,hi=>by
    show redF m t (k+1) (fun i=>f 0*y i+yaJ (zdc (k+1) (fun j=>f (j+1)) y) i) i=f 0*y i+tn m t (k+1) (fun j=>f (j+1)) (yaA m t y) i
    rw [yd9]
    show f 0*redF m t (k+1) y i+redF m t (k+1) (yaJ (zdc (k+1) (fun j=>f (j+1)) y)) i=_
    rw [yea (k+1) y hy,zcL hm k _ i hi]
    congr 1
    have e:∀i,i<m→redF m t k (zdc (k+1) (fun j=>f (j+1)) y) i=tn m t (k+1) (fun j=>f (j+1)) y i:=fun i hi=>zeb hm k _ y hy i hi
    rw [←yd7]
    unfold yaA yaJ
    rw [if_pos hi,if_pos hi,e (m-1) (by omega)]
    by_cases h0:i=0
    · rw [if_pos h0,if_pos h0]
    · rw [if_neg h0,if_neg h0,e (i-1) (by omega)]
end
theorem yb1 {m:Nat} {t:Nat→Nat}:∀(k:Nat) (f y:Nat→Nat) (i:Nat),(∀j,f j=0)→tn m t k f y i=0
  | 0,_,_,_,_=>rfl
  | k+1,f,y,i,h=>by
    show f 0*y i+tn m t k (fun j=>f (j+1)) (yaA m t y) i=0
    rw [h 0,yb1 k _ _ i fun j=>h (j+1)]
    simp
theorem ybq {p a b c d:Nat} (h1:a%p=c%p) (h2:b%p=d%p):(a+b)%p=(c+d)%p:=by rw [Nat.add_mod,h1,h2,←Nat.add_mod]
theorem zcW {p a b c d:Nat} (h1:a%p=c%p) (h2:b%p=d%p):(a*b)%p=(c*d)%p:=by rw [Nat.mul_mod,h1,h2,←Nat.mul_mod]
theorem ydP {p m:Nat} (hm:1≤m) {t y y':Nat→Nat} (h:∀i,i<m→y i%p=y' i%p) (i:Nat):yaA m t y i%p=yaA m t y' i%p:=by
  unfold yaA yaJ
  split
  · refine ybq ?_ (zcW (h (m-1) (by omega)) rfl)
    split
    · rfl
    · exact h (i-1) (by omega)
  · rfl
theorem ybs {p m:Nat} (hm:1≤m) {t:Nat→Nat}:∀(k:Nat) (f y y':Nat→Nat),(∀i,i<m→y i%p=y' i%p)→∀i,i<m→tn m t k f y i%p=tn m t k f y' i%p
  | 0,_,_,_,_,_,_=>rfl
  | k+1,f,y,y',h,i,hi=>ybq (zcW rfl (h i hi)) (ybs hm k _ _ _ (fun j _=>ydP hm h j) i hi)
theorem ycx (p x:Nat):(fun j=>dg p (j+1) x)=fun j=>dg p j (x/p):=by funext j;exact zbp p j x
theorem zea (p i x:Nat):dg p i x%p=dg p i x:=by unfold dg;exact Nat.mod_mod _ _
theorem yg9 {p:Nat} (hp:2≤p) (k i x:Nat):dg p i (x%p^k)=if i<k then dg p i x else 0:=by
  by_cases h:i<k
  · rw [if_pos h]
    unfold dg
    obtain ⟨c,rfl⟩:∃c,k=i+(c+1):=⟨k-i-1,by omega⟩
    rw [Nat.pow_add,Nat.mod_mul_right_div_self,Nat.pow_succ,Nat.mul_comm (p^c) p,Nat.mod_mul_right_mod]
  · rw [if_neg h]
    exact zas hp (Nat.mod_lt _ (Nat.pow_pos (by omega))) (by omega)
theorem zhq {p:Nat} (hp:2≤p) (i x:Nat):dg p i (x*p)=if i=0 then 0 else dg p (i-1) x:=by
  cases i with
  | zero=>rw [zbi,if_pos rfl,Nat.mul_mod_left]
  | succ i=>rw [if_neg (by omega),zbp,Nat.mul_div_cancel _ (by omega)];rfl
theorem zgt {p m x:Nat} (hp:2≤p) (hm:1≤m) (h:x<p^m):x/p^(m-1)=dg p (m-1) x:=by
  unfold dg
  rw [Nat.mod_eq_of_lt]
  obtain ⟨c,rfl⟩:∃c,m=c+1:=⟨m-1,by omega⟩
  exact Nat.div_lt_of_lt_mul (by simpa [Nat.pow_succ] using h)
end Dg
end
section
-- text: MathB
namespace Dg
def ofF (p:Nat):Nat→(Nat→Nat)→Nat
  | 0,_=>0
  | m+1,f=>f 0%p+p*ofF p m (fun j=>f (j+1))
theorem zer {p:Nat} (hp:2≤p):∀(m:Nat) (f:Nat→Nat),ofF p m f<p^m
  | 0,f=>by simp [ofF]
  | m+1,f=>by
    have h:=zer hp m fun j=>f (j+1)
    have h1:f 0%p<p:=Nat.mod_lt _ (by omega)
    show f 0%p+p*ofF p m (fun j=>f (j+1))<p^(m+1)
    calc f 0%p+p*ofF p m (fun j=>f (j+1))<p+p*ofF p m (fun j=>f (j+1)):=by omega
      _=p*(ofF p m (fun j=>f (j+1))+1):=by rw [Nat.mul_add,Nat.mul_one,Nat.add_comm]
      _≤p*p^m:=Nat.mul_le_mul_left _ h
      _=p^(m+1):=by rw [Nat.pow_succ,Nat.mul_comm]
theorem ydh {p:Nat} (hp:2≤p):∀(m:Nat) (f:Nat→Nat) (i:Nat),dg p i (ofF p m f)=if i<m then f i%p else 0
  | 0,f,i=>by simp [ofF,zbh]
  | m+1,f,i=>by
    have h1:f 0%p<p:=Nat.mod_lt _ (by omega)
    cases i with
    | zero =>
      rw [if_pos (by omega),zbi]
      show (f 0%p+p*ofF p m (fun j=>f (j+1)))%p=f 0%p
      rw [Nat.add_mul_mod_self_left,Nat.mod_mod]
    | succ i =>
      rw [zbp]
      show dg p i ((f 0%p+p*ofF p m (fun j=>f (j+1)))/p)=_
      rw [Nat.add_mul_div_left _ _ (by omega),Nat.div_eq_of_lt h1,Nat.zero_add,ydh hp m]
      by_cases h:i<m
      · rw [if_pos h,if_pos (by omega)]
      · rw [if_neg h,if_neg (by omega)]
theorem zb4 {p:Nat} (hp:2≤p) {m a b:Nat} (ha:a<p^m) (hb:b<p^m) (h:∀i,i<m→dg p i a=dg p i b):a=b :=
  ext hp fun i=>by
    by_cases hi:i<m
    · exact h i hi
    · rw [zas hp ha (by omega),zas hp hb (by omega)]
abbrev dgs (p x:Nat):Nat→Nat:=fun i=>dg p i x
def add (p m x y:Nat):Nat:=ofF p m fun i=>dg p i x+dg p i y
def sub (p m x y:Nat):Nat:=ofF p m fun i=>dg p i x+(p-1)*dg p i y
def up (p m t x:Nat):Nat:=ofF p m (yaA m (dgs p t) (dgs p x))
def mulN (p m t:Nat):Nat→Nat→Nat→Nat
  | 0,_,_=>0
  | k+1,x,y=>ofF p m fun i=>x%p*dg p i y+dg p i (mulN p m t k (x/p) (up p m t y))
def mul (p m t x y:Nat):Nat:=mulN p m t m x y
section
variable {p m t:Nat} (hp:2≤p) (hm:1≤m)
include hp hm
theorem zeX:∀(k x y i:Nat),i<m→dg p i (mulN p m t k x y)=tn m (dgs p t) k (dgs p x) (dgs p y) i%p
  | 0,x,y,i,hi=>by show dg p i 0=0%p;rw [zbh];simp
  | k+1,x,y,i,hi=>by
    show dg p i (ofF p m fun i=>x%p*dg p i y+dg p i (mulN p m t k (x/p) (up p m t y)))=_
    rw [ydh hp,if_pos hi]
    show _=(dg p 0 x*dg p i y+tn m (dgs p t) k (fun j=>dg p (j+1) x) (yaA m (dgs p t) (dgs p y)) i)%p
    rw [zeX k _ _ i hi,zbi]
    refine ybq rfl ?_
    rw [Nat.mod_mod,ycx]
    refine ybs hm k _ _ _ (fun j hj=>?_) i hi
    show dg p j (up p m t y)%p=_
    unfold up
    rw [ydh hp,if_pos hj,Nat.mod_mod]
theorem zgk:∀(k x y:Nat),mulN p m t k x y<p^m
  | 0,x,y=>Nat.pow_pos (by omega)
  | k+1,x,y=>zer hp _ _
theorem za5 (x y:Nat):mul p m t x y<p^m:=zgk hp hm _ _ _
theorem zdi (x y:Nat):add p m x y<p^m:=zer hp _ _
theorem zcy (x y:Nat):sub p m x y<p^m:=zer hp _ _
theorem ybG (x y i:Nat) (hi:i<m):dg p i (mul p m t x y)=tn m (dgs p t) m (dgs p x) (dgs p y) i%p:=zeX hp hm m x y i hi
theorem zef (x y i:Nat) (hi:i<m):dg p i (add p m x y)=(dg p i x+dg p i y)%p:=by unfold add;rw [ydh hp,if_pos hi]
theorem ye2 (x y i:Nat) (hi:i<m):dg p i (sub p m x y)=(dg p i x+(p-1)*dg p i y)%p:=by unfold sub;rw [ydh hp,if_pos hi]
theorem zbO {x y r:Nat} (hr:r<p^m) (h:∀i,i<m→dg p i r=tn m (dgs p t) m (dgs p x) (dgs p y) i%p):r=mul p m t x y :=
  zb4 hp hr (za5 hp hm x y) fun i hi=>by rw [h i hi,ybG hp hm x y i hi]
theorem yga {x y r:Nat} (hx:x<p^m) (hy:y<p^m) (h:∀i,dg p i r=(dg p i x+dg p i y)%p):r=add p m x y :=
  ext hp fun i=>by
    by_cases hi:i<m
    · rw [h,zef hp hm x y i hi]
    · rw [h,zas hp (zdi hp hm x y) (by omega),zas hp hx (by omega),zas hp hy (by omega)];simp
theorem yeq {x y r:Nat} (hx:x<p^m) (hy:y<p^m) (h:∀i,dg p i r=(dg p i x+(p-1)*dg p i y)%p):r=sub p m x y :=
  ext hp fun i=>by
    by_cases hi:i<m
    · rw [h,ye2 hp hm x y i hi]
    · rw [h,zas hp (zcy hp hm x y) (by omega),zas hp hx (by omega),zas hp hy (by omega)];simp
end
section
variable {m:Nat} {t:Nat→Nat}
theorem yel (c:Nat):∀(k:Nat) (f y z:Nat→Nat),tn m t k f (fun i=>c*y i+z i)=fun i=>c*tn m t k f y i+tn m t k f z i
  | 0,f,y,z=>by funext i;rfl
  | k+1,f,y,z=>by
    funext i
    show f 0*(c*y i+z i)+tn m t k (fun j=>f (j+1)) (yaA m t fun i=>c*y i+z i) i=c*(f 0*y i+tn m t k (fun j=>f (j+1)) (yaA m t y) i)+(f 0*z i+tn m t k (fun j=>f (j+1)) (yaA m t z) i)
    rw [ydH,yel c k]
    dsimp only
    rw [Nat.mul_add,Nat.mul_add,Nat.mul_left_comm]
    omega
theorem zd8:∀(k l:Nat) (f g y:Nat→Nat),tn m t k f (tn m t l g y)=tn m t l g (tn m t k f y)
  | 0,l,f,g,y=>by
    show (fun _=>0)=tn m t l g (fun _=>0)
    have h:=yel (m:=m) (t:=t) 0 l g (fun _=>0) (fun _=>0)
    funext i
    have h2:=yel (m:=m) (t:=t) 1 l g (fun _=>0) (fun _=>0)
    have h3:=congrFun h2 i
    simp at h3
    exact h3.symm
  | k+1,l,f,g,y=>by
    show (fun i=>f 0*tn m t l g y i+tn m t k (fun j=>f (j+1)) (yaA m t (tn m t l g y)) i)=tn m t l g (fun i=>f 0*y i+tn m t k (fun j=>f (j+1)) (yaA m t y) i)
    rw [yd7,zd8 k,yel]
def zbI (s:Nat):Nat→Nat:=fun i=>if i=s then 1 else 0
theorem yfo {s:Nat} (h:s+1<m):yaA m t (zbI s)=zbI (s+1):=by
  funext i
  unfold yaA yaJ zbI
  rw [if_neg (show ¬ m-1=s by omega),Nat.zero_mul,Nat.add_zero]
  by_cases hi:i<m
  · rw [if_pos hi]
    by_cases h0:i=0
    · rw [if_pos h0,if_neg (by omega)]
    · rw [if_neg h0]
      by_cases hs:i-1=s
      · rw [if_pos hs,if_pos (by omega)]
      · rw [if_neg hs,if_neg (by omega)]
  · rw [if_neg hi,if_neg (by omega)]
theorem yeO:∀(k s:Nat) (f:Nat→Nat) (i:Nat),s+k≤m→tn m t k f (zbI s) i=if s≤i∧i<s+k then f (i-s) else 0
  | 0,s,f,i,_=>by rw [if_neg (by omega)];rfl
  | k+1,s,f,i,h=>by
    show f 0*zbI s i+tn m t k (fun j=>f (j+1)) (yaA m t (zbI s)) i=_
    cases k with
    | zero =>
      show f 0*zbI s i+0=_
      unfold zbI
      by_cases hi:i=s
      · rw [if_pos hi,if_pos (by omega)];subst hi;simp
      · rw [if_neg hi,if_neg (by omega)];simp
    | succ k =>
      rw [yfo (by omega),yeO (k+1) (s+1) _ i (by omega)]
      unfold zbI
      by_cases hi:i=s
      · subst hi;rw [if_pos rfl,if_neg (by omega),if_pos (by omega)];simp
      · rw [if_neg hi]
        by_cases h2:s+1≤i∧i<s+1+(k+1)
        · rw [if_pos h2,if_pos (by omega)]
          show f 0*0+f (i-(s+1)+1)=f (i-s)
          rw [Nat.mul_zero,Nat.zero_add];congr 1;omega
        · rw [if_neg h2,if_neg (by omega)];simp
theorem ye0 (f:Nat→Nat) (i:Nat) (hi:i<m):tn m t m f (zbI 0) i=f i:=by
  rw [yeO m 0 f i (by omega),if_pos (by omega),Nat.sub_zero]
end
section
variable {p m t:Nat} (hp:2≤p) (hm:1≤m)
include hp hm
theorem mul_comm (x y:Nat):mul p m t x y=mul p m t y x:=by
  refine zb4 hp (za5 hp hm _ _) (za5 hp hm _ _) fun i hi=>?_
  rw [ybG hp hm _ _ i hi,ybG hp hm _ _ i hi]
  have h1:=ybs (p:=p) hm (t:=dgs p t) m (dgs p x) (dgs p y) (tn m (dgs p t) m (dgs p y) (zbI 0)) (fun j hj=>by rw [ye0 _ j hj]) i hi
  have h2:=ybs (p:=p) hm (t:=dgs p t) m (dgs p y) (dgs p x) (tn m (dgs p t) m (dgs p x) (zbI 0)) (fun j hj=>by rw [ye0 _ j hj]) i hi
  rw [h1,h2,zd8]
theorem mul_left_comm (x y z:Nat):mul p m t x (mul p m t y z)=mul p m t y (mul p m t x z):=by
  refine zb4 hp (za5 hp hm _ _) (za5 hp hm _ _) fun i hi=>?_
  rw [ybG hp hm _ _ i hi,ybG hp hm _ _ i hi]
  have h1:=ybs (p:=p) hm (t:=dgs p t) m (dgs p x) (dgs p (mul p m t y z)) (tn m (dgs p t) m (dgs p y) (dgs p z)) (fun j hj=>by show dg p j _%p=_;rw [ybG hp hm _ _ j hj,Nat.mod_mod]) i hi
  have h2:=ybs (p:=p) hm (t:=dgs p t) m (dgs p y) (dgs p (mul p m t x z)) (tn m (dgs p t) m (dgs p x) (dgs p z)) (fun j hj=>by show dg p j _%p=_;rw [ybG hp hm _ _ j hj,Nat.mod_mod]) i hi
  rw [h1,h2,zd8]
theorem mul_assoc (x y z:Nat):mul p m t (mul p m t x y) z=mul p m t x (mul p m t y z):=by
  rw [mul_comm hp hm _ z,mul_left_comm hp hm z x y,mul_comm hp hm z y]
theorem zaC:1<p^m:=by
  have:p^1≤p^m:=Nat.pow_le_pow_right (by omega) hm
  rw [Nat.pow_one] at this;omega
theorem yg6 (i:Nat):dg p i 1=zbI 0 i:=by
  unfold zbI
  cases i with
  | zero=>rw [zbi,if_pos rfl,Nat.mod_eq_of_lt (by omega)]
  | succ i=>rw [if_neg (by omega),zbp,Nat.div_eq_of_lt (by omega),zbh]
theorem mul_one {x:Nat} (hx:x<p^m):mul p m t x 1=x:=by
  refine zb4 hp (za5 hp hm _ _) hx fun i hi=>?_
  rw [ybG hp hm _ _ i hi,show dgs p 1=zbI 0 from funext fun i=>yg6 hp hm i,ye0 _ i hi,zea]
theorem ybA {x:Nat} (hx:x<p^m):mul p m t 1 x=x:=by rw [mul_comm hp hm,mul_one hp hm hx]
theorem zero_mul (x:Nat):mul p m t 0 x=0:=by
  refine zb4 hp (za5 hp hm _ _) (Nat.pow_pos (by omega)) fun i hi=>?_
  rw [ybG hp hm _ _ i hi,yb1 _ _ _ _ (fun j=>zbh p j),zbh];simp
theorem mul_zero (x:Nat):mul p m t x 0=0:=by rw [mul_comm hp hm,zero_mul hp hm]
theorem add_comm (x y:Nat):add p m x y=add p m y x:=by
  unfold add;congr 1;funext i;exact Nat.add_comm _ _
theorem add_zero {x:Nat} (hx:x<p^m):add p m x 0=x:=by
  refine zb4 hp (zdi hp hm _ _) hx fun i hi=>?_
  rw [zef hp hm _ _ i hi,zbh,Nat.add_zero,zea]
theorem zero_add {x:Nat} (hx:x<p^m):add p m 0 x=x:=by rw [add_comm hp hm,add_zero hp hm hx]
theorem zdY {x y:Nat} (hx:x<p^m):sub p m (add p m x y) y=x:=by
  refine zb4 hp (zcy hp hm _ _) hx fun i hi=>?_
  rw [ye2 hp hm _ _ i hi,zef hp hm _ _ i hi,Nat.mod_add_mod,show dg p i x+dg p i y+(p-1)*dg p i y=dg p i x+p*dg p i y by obtain ⟨k,rfl⟩:∃k,p=k+1:=⟨p-1,by omega⟩;rw [Nat.add_sub_cancel,Nat.add_mul];omega,Nat.add_mul_mod_self_left,zea]
def pw (p m t x:Nat):Nat→Nat
  | 0=>1
  | n+1=>mul p m t (pw p m t x n) x
theorem ybv (x n:Nat):pw p m t x n<p^m:=by
  cases n with
  | zero=>exact zaC hp hm
  | succ n=>exact za5 hp hm _ _
theorem yb5 (x a:Nat):∀b,pw p m t x (a+b)=mul p m t (pw p m t x a) (pw p m t x b)
  | 0=>(mul_one hp hm (ybv hp hm x a)).symm
  | b+1=>by
    show mul p m t (pw p m t x (a+b)) x=mul p m t (pw p m t x a) (mul p m t (pw p m t x b) x)
    rw [yb5 x a b,mul_assoc hp hm]
theorem zdr {x:Nat} (hx:x<p^m):pw p m t x 1=x:=ybA hp hm hx
theorem ybM (x a:Nat):∀b,pw p m t x (a*b)=pw p m t (pw p m t x a) b
  | 0=>rfl
  | b+1=>by
    rw [Nat.mul_succ,yb5 hp hm,ybM x a b];rfl
theorem yec:∀n,pw p m t 1 n=1
  | 0=>rfl
  | n+1=>by
    show mul p m t (pw p m t 1 n) 1=1
    rw [yec n,mul_one hp hm (zaC hp hm)]
theorem ze1 (n:Nat):pw p m t 0 (n+1)=0:=mul_zero hp hm _
end
end Dg
end
section
-- text: MathC
namespace Dg
def zgg:List (Nat×Nat×List (Nat×Nat)):=[(2,1,[(1,0)]),(2,2,[(2,2),(3,3),(2,3),(2,0)]),(2,3,[(2,4),(3,7),(2,5),(2,0),(2,6),(2,0),(2,7),(3,5)]),(2,4,[(2,8),(3,15),(2,9),(2,0),(2,10),(7,7),(2,11),(3,13),(2,12),(2,0),(2,13),(3,9),(2,14),(3,11),(2,15),(3,0)]),(3,1,[(2,0)]),(3,2,[(3,3),(4,5),(4,0),(3,5),(3,0),(4,4),(3,4),(3,0),(5,5)]),(3,3,[(3,9),(5,13),(4,16),(3,11),(6,0),(3,0),(3,10),(4,17),(5,14),(3,15),(4,14),(3,0),(3,17),(4,0),(4,13),(3,16),(5,10),(3,0),(3,12),(5,0),(5,17),(3,14),(4,11),(3,0),(3,13),(4,0),(4,10)]),(5,1,[(2,0)]),(5,2,[(5,5),(6,9),(7,0),(6,0),(7,8),(5,9),(7,7),(6,8),(5,0),(6,0),(5,8),(6,0),(5,0),(6,7),(9,9),(5,7),(8,0),(5,0),(8,9),(6,6),(5,6),(8,8),(7,9),(5,0),(7,0)]),(7,1,[(3,0)]),(11,1,[(2,0)]),(13,1,[(2,0)]),(2,5,[(2,16),(3,31),(2,17),(7,13),(2,18),(2,0),(2,19),(3,29),(2,20),(2,0),(2,21),(3,25),(2,22),(3,27),(2,23),(2,0),(2,24),(7,11),(2,25),(3,17),(2,26),(3,19),(2,27),(2,0),(2,28),(3,23),(2,29),(2,0),(2,30),(2,0),(2,31),(3,21)]),(2,6,[(2,32),(3,63),(2,33),(2,0),(2,34),(11,11),(2,35),(3,61),(2,36),(3,0),(2,37),(3,57),(2,38),(3,59),(2,39),(7,25),(2,40),(13,13),(2,41),(3,49),(2,42),(3,51),(2,43),(3,0),(2,44),(3,55),(2,45),(2,0),(2,46),(7,31),(2,47),(3,53),(2,48),(2,0),(2,49),(3,33),(2,50),(3,35),(2,51),(2,0),(2,52),(3,39),(2,53),(7,21),(2,54),(2,0),(2,55),(3,37),(2,56),(3,47),(2,57),(2,0),(2,58),(3,0),(2,59),(3,45),(2,60),(7,19),(2,61),(3,41),(2,62),(3,43),(2,63),(11,13)]),(7,2,[(7,7),(8,13),(10,11),(8,0),(9,12),(8,0),(9,0),(7,13),(9,0),(8,12),(9,0),(7,0),(10,10),(9,11),(7,12),(9,10),(7,0),(8,11),(7,0),(8,0),(13,13),(7,11),(8,0),(7,0),(9,9),(8,10),(12,13),(8,0),(7,10),(11,0),(7,0),(12,12),(11,13),(8,9),(11,0),(7,9),(11,12),(7,0),(10,13),(7,0),(10,0),(8,8),(7,8),(10,0),(9,13),(10,0),(7,0),(11,11),(10,12)]),(61,1,[(2,0)]),(17,1,[(3,0)]),(19,1,[(2,0)]),(23,1,[(5,0)]),(29,1,[(2,0)]),(31,1,[(3,0)]),(37,1,[(2,0)]),(41,1,[(6,0)]),(43,1,[(3,0)]),(47,1,[(5,0)]),(53,1,[(2,0)]),(59,1,[(2,0)])]
def menu:List (Nat×Nat):=zgg.map fun c=>(c.1,c.2.1)
def ybj (p m t b:Nat):Nat→Nat→List Nat
  | _,0=>[]
  | x,n+1=>x::ybj p m t b (mul p m t x b) n
def lowB (p m t b:Nat):Bool:=((ybj p m t b 1 (p^m-1)).drop 1).contains 1
def zeO (p m t b:Nat):Bool:=(List.range b).all (fun c=>c==0||lowB p m t c)&&!lowB p m t b&&decide (0<b)&&(List.range (p^m)).all (fun y=>y==0||(ybj p m t b 1 (p^m-1)).contains y)&&(ybj p m t b 1 (p^m)).getLast?==some 1&&decide (b<p^m)
def zex (p m t:Nat) (c:Nat×Nat):Bool:=if c.2=0 then zeO p m t c.1 else decide (0<c.1∧c.1<p^m∧c.1<p^(m/2+1)∧c.2<p^m)&&mul p m t c.1 c.2==0
def zdv (p m:Nat):Nat→List (Nat×Nat)→Bool
  | _,[]=>true
  | t,c::cs=>zex p m t c&&zdv p m (t+1) cs
def yho:Bool:=zgg.all fun c=>zdv c.1 c.2.1 0 c.2.2
theorem zhd:yho=true:=by decide +kernel
theorem yco {p m t b:Nat}:∀(n k i:Nat),i<n→(ybj p m t b (pw p m t b k) n)[i]?=some (pw p m t b (k+i))
  | 0,k,i,h=>absurd h (Nat.not_lt_zero _)
  | n+1,k,0,h=>rfl
  | n+1,k,i+1,h=>by
    show (ybj p m t b (pw p m t b (k+1)) n)[i]?=_
    rw [yco n (k+1) i (by omega),show k+1+i=k+(i+1) by omega]
theorem zcA {p m t b:Nat}:∀(n x:Nat),(ybj p m t b x n).length=n
  | 0,x=>rfl
  | n+1,x=>by show (ybj p m t b _ n).length+1=_;rw [zcA n]
structure Prim (p m t b:Nat):Prop where
  lt:b<p^m
  round:pw p m t b (p^m-1)=1
  all:∀y,0<y→y<p^m→∃i,i<p^m-1∧pw p m t b i=y
  pos:0<b
  min:∀i,0<i→i<p^m-1→pw p m t b i≠1
  low:∀c,0<c→c<b→∃i,0<i∧i<p^m-1∧pw p m t c i=1
theorem ygc {p m t b:Nat}:lowB p m t b=true↔∃i,0<i∧i<p^m-1∧pw p m t b i=1:=by
  unfold lowB
  rw [List.contains_iff_mem,List.mem_iff_getElem?]
  constructor
  · rintro ⟨j,h⟩
    rw [List.getElem?_drop] at h
    have hl:1+j<p^m-1:=by have:=(List.getElem?_eq_some_iff.mp h).1;rw [zcA] at this;exact this
    have g:=yco (p:=p) (m:=m) (t:=t) (b:=b) (p^m-1) 0 (1+j) hl
    rw [show pw p m t b 0=1 from rfl,h] at g
    exact ⟨1+j,by omega,hl,by simpa using (Option.some.inj g).symm⟩
  · rintro ⟨i,h0,hi,e⟩
    refine ⟨i-1,?_⟩
    rw [List.getElem?_drop,show 1+(i-1)=i by omega]
    have g:=yco (p:=p) (m:=m) (t:=t) (b:=b) (p^m-1) 0 i hi
    rw [show pw p m t b 0=1 from rfl,Nat.zero_add,e] at g
    exact g
theorem ycJ {p m t b:Nat} (hq:0<p^m) (h:zeO p m t b=true):Prim p m t b:=by
  unfold zeO at h
  simp only [Bool.and_eq_true] at h
  obtain ⟨⟨⟨⟨⟨k1,k2⟩,k3⟩,h1⟩,h2⟩,h3⟩:=h
  refine ⟨of_decide_eq_true h3,?_,fun y hy hy2=>?_,of_decide_eq_true k3,fun i hi hi2 e=>?_,fun c hc hc2=>?_⟩
  · have e:(ybj p m t b 1 (p^m)).getLast?=some 1:=by simpa using h2
    rw [List.getLast?_eq_getElem?,zcA] at e
    have g:=yco (p:=p) (m:=m) (t:=t) (b:=b) (p^m) 0 (p^m-1) (by omega)
    rw [show pw p m t b 0=1 from rfl] at g
    rw [g] at e
    simpa using Option.some.inj e
  · rw [List.all_eq_true] at h1
    have g:=h1 y (List.mem_range.mpr hy2)
    rw [Bool.or_eq_true] at g
    rcases g with g|g
    · have:y=0:=by simpa using g
      omega
    · have g:y∈ybj p m t b 1 (p^m-1):=List.contains_iff_mem.mp g
      obtain ⟨i,hi,e⟩:=List.mem_iff_getElem.mp g
      rw [zcA] at hi
      have g2:=yco (p:=p) (m:=m) (t:=t) (b:=b) (p^m-1) 0 i hi
      rw [show pw p m t b 0=1 from rfl,List.getElem?_eq_getElem (by rw [zcA];exact hi),e] at g2
      exact ⟨i,hi,by simpa using (Option.some.inj g2).symm⟩
  · have:=ygc.mpr ⟨i,hi,hi2,e⟩
    rw [this] at k2
    cases k2
  · have g:=List.all_eq_true.mp k1 c (List.mem_range.mpr hc2)
    rw [Bool.or_eq_true] at g
    rcases g with g|g
    · have:c=0:=by simpa using g
      omega
    · exact ygc.mp g
theorem zbY {p m:Nat}:∀(cs:List (Nat×Nat)) (t i:Nat) (c:Nat×Nat),zdv p m t cs=true→cs[i]?=some c→zex p m (t+i) c=true
  | [],t,i,c,_,h=>by simp at h
  | d::cs,t,0,c,h,e=>by
    have h:(zex p m t d&&zdv p m (t+1) cs)=true:=h
    rw [Bool.and_eq_true] at h
    cases e
    exact h.1
  | d::cs,t,i+1,c,h,e=>by
    have h:(zex p m t d&&zdv p m (t+1) cs)=true:=h
    rw [Bool.and_eq_true] at h
    have g:=zbY cs (t+1) i c h.2 (by simpa using e)
    rw [show t+(i+1)=t+1+i by omega];exact g
theorem yfD (p t x y:Nat):mul p 1 t x y=mul p 1 0 x y:=rfl
theorem yct (p t x:Nat):∀n,pw p 1 t x n=pw p 1 0 x n
  | 0=>rfl
  | n+1=>by
    show mul p 1 t (pw p 1 t x n) x=mul p 1 0 (pw p 1 0 x n) x
    rw [yct p t x n,yfD]
structure Good (p m t:Nat):Prop where
  mem:(p,m)∈menu
  top:t<p^m
  no:m=1∨∀x y,0<x→x<p^m→x<p^(m/2+1)→0<y→y<p^m→mul p m t x y≠0
def zfJ:Bool:=zgg.all fun c=>decide (2≤c.1∧1≤c.2.1∧c.1^c.2.1≤64)&&(if c.2.1=1 then decide (c.2.2.length=1)&&c.2.2.all (fun d=>d.2==0) else decide (c.2.2.length=c.1^c.2.1))
theorem zdw:zfJ=true:=by decide +kernel
theorem ybm {p m:Nat} (h:(p,m)∈menu):2≤p∧1≤m∧p^m≤64:=by
  obtain ⟨c,hc,e⟩:=List.mem_map.mp h
  cases e
  have g:=List.all_eq_true.mp zdw c hc
  rw [Bool.and_eq_true] at g
  exact of_decide_eq_true g.1
theorem Good.prim {p m t:Nat} (h:Good p m t):∃b,Prim p m t b:=by
  obtain ⟨c,hc,e⟩:=List.mem_map.mp h.mem
  obtain ⟨p',m',cs⟩:=c
  obtain ⟨rfl,rfl⟩:p'=p∧m'=m:=by simpa using e
  have hs:=ybm h.mem
  have hq:0<p'^m':=Nat.pow_pos (by omega)
  have g:=List.all_eq_true.mp zdw _ hc
  have a:=List.all_eq_true.mp zhd _ hc
  rw [Bool.and_eq_true] at g
  have g:=g.2
  dsimp only at g a
  by_cases h1:m'=1
  · subst h1
    rw [if_pos rfl,Bool.and_eq_true] at g
    have hl:cs.length=1:=of_decide_eq_true g.1
    obtain ⟨c,rfl⟩:∃c,cs=[c]:=by
      cases cs with
      | nil=>simp at hl
      | cons c r=>cases r with
        | nil=>exact ⟨c,rfl⟩
        | cons d r=>simp at hl
    have a1:=zbY [c] 0 0 c a rfl
    have c0:c.2=0:=by simpa using List.all_eq_true.mp g.2 c (by simp)
    unfold zex at a1
    rw [if_pos c0] at a1
    have P:=ycJ hq a1
    refine ⟨c.1,P.lt,?_,fun y hy hy2=>?_,P.pos,fun i h1 h2=>?_,fun d h1 h2=>?_⟩
    · rw [yct];exact P.round
    · obtain ⟨i,hi,e⟩:=P.all y hy hy2
      exact ⟨i,hi,by rw [yct];exact e⟩
    · rw [yct];exact P.min i h1 h2
    · obtain ⟨i,a,b,e⟩:=P.low d h1 h2
      exact ⟨i,a,b,by rw [yct];exact e⟩
  · rw [if_neg h1] at g
    have hl:cs.length=p'^m':=of_decide_eq_true g
    have ht:t<cs.length:=by rw [hl];exact h.top
    have a1:=zbY cs 0 t cs[t] a (List.getElem?_eq_getElem ht)
    rw [Nat.zero_add] at a1
    unfold zex at a1
    by_cases c0:cs[t].2=0
    · rw [if_pos c0] at a1
      exact ⟨_,ycJ hq a1⟩
    · rw [if_neg c0,Bool.and_eq_true] at a1
      have b:=of_decide_eq_true a1.1
      rcases h.no with h2|h2
      · exact absurd h2 h1
      · exact absurd (by simpa using a1.2) (h2 _ _ b.1 b.2.1 b.2.2.1 (by omega) b.2.2.2)
section
variable {p m t:Nat} (G:Good p m t)
include G
theorem Good.hp:2≤p:=(ybm G.mem).1
theorem Good.hm:1≤m:=(ybm G.mem).2.1
theorem Good.hq:p^m≤64:=(ybm G.mem).2.2
theorem Good.fermat {x:Nat} (h0:0<x) (hx:x<p^m):pw p m t x (p^m-1)=1:=by
  obtain ⟨b,P⟩:=G.prim
  obtain ⟨i,_,rfl⟩:=P.all x h0 hx
  rw [←ybM G.hp G.hm,Nat.mul_comm,ybM G.hp G.hm,P.round,yec G.hp G.hm]
theorem Good.inv {x:Nat} (h0:0<x) (hx:x<p^m):mul p m t (pw p m t x (p^m-2)) x=1:=by
  have h2:=zaC G.hp G.hm
  have e:p^m-1=(p^m-2)+1:=by omega
  have f:=G.fermat h0 hx
  rw [e] at f
  exact f
theorem Good.noz {x y:Nat} (h0:0<x) (hx:x<p^m) (k0:0<y) (hy:y<p^m):0<mul p m t x y:=by
  rcases Nat.eq_zero_or_pos (mul p m t x y) with e|e
  · have i:=G.inv h0 hx
    have f:mul p m t (pw p m t x (p^m-2)) (mul p m t x y)=y:=by rw [←mul_assoc G.hp G.hm,i,ybA G.hp G.hm hy]
    rw [e,mul_zero G.hp G.hm] at f
    omega
  · exact e
theorem Good.inj {b:Nat} (P:Prim p m t b):∀i j,i<p^m-1→j<p^m-1→pw p m t b i=pw p m t b j→i=j:=by
  have key:∀i j,i<j→j<p^m-1→pw p m t b i≠pw p m t b j:=by
    intro i j hij hj e
    have hp:=G.hp
    have hm:=G.hm
    have h1:mul p m t (pw p m t b (p^m-1-i)) (pw p m t b i)=1:=by rw [←yb5 hp hm,show p^m-1-i+i=p^m-1 by omega,P.round]
    have h2:mul p m t (pw p m t b (p^m-1-i)) (pw p m t b j)=pw p m t b (j-i):=by
      rw [show j=i+(j-i) by omega,yb5 hp hm,←mul_assoc hp hm,h1,ybA hp hm (ybv hp hm _ _),show i+(j-i)-i=j-i by omega]
    rw [←e,h1] at h2
    exact P.min (j-i) (by omega) (by omega) h2.symm
  intro i j hi hj e
  rcases Nat.lt_trichotomy i j with h|h|h
  · exact absurd e (key i j h hj)
  · exact h
  · exact absurd e.symm (key j i h hi)
theorem Good.pw_pos {b:Nat} (h0:0<b) (hb:b<p^m):∀n,0<pw p m t b n
  | 0=>by show 0<1;omega
  | n+1=>G.noz (Good.pw_pos h0 hb n) (ybv G.hp G.hm _ _) h0 hb
theorem Good.pw_mod {x:Nat} (h0:0<x) (hx:x<p^m) (n:Nat):pw p m t x (n%(p^m-1))=pw p m t x n:=by
  have e:=Nat.div_add_mod n (p^m-1)
  have g:pw p m t x n=mul p m t (pw p m t x ((p^m-1)*(n/(p^m-1)))) (pw p m t x (n%(p^m-1))):=by rw [←yb5 G.hp G.hm,e]
  rw [g,ybM G.hp G.hm,G.fermat h0 hx,yec G.hp G.hm,ybA G.hp G.hm (ybv G.hp G.hm _ _)]
end
end Dg
end
section
-- text: MathD
namespace Dg
def sumF (p m:Nat):Nat→(Nat→Nat)→Nat
  | 0,_=>0
  | k+1,f=>add p m (sumF p m k f) (f k)
section
variable {p m t:Nat} (hp:2≤p) (hm:1≤m)
include hp hm
theorem yaN:0<p^m:=Nat.pow_pos (by omega)
theorem zf9 (k:Nat) (f:Nat→Nat):sumF p m k f<p^m:=by
  cases k with
  | zero=>exact yaN hp hm
  | succ k=>exact zdi hp hm _ _
theorem zcb (f:Nat→Nat) (k:Nat):∀d,(∀i,k≤i→i<k+d→f i=0)→sumF p m (k+d) f=sumF p m k f
  | 0,_=>rfl
  | d+1,h=>by
    show add p m (sumF p m (k+d) f) (f (k+d))=_
    rw [h (k+d) (by omega) (by omega),add_zero hp hm (zf9 hp hm _ _),zcb f k d fun i h1 h2=>h i h1 (by omega)]
theorem ybP {f g:Nat→Nat}:∀k,(∀i,i<k→f i=g i)→sumF p m k f=sumF p m k g
  | 0,_=>rfl
  | k+1,h=>by
    show add p m (sumF p m k f) (f k)=add p m (sumF p m k g) (g k)
    rw [ybP k fun i hi=>h i (by omega),h k (by omega)]
end
def conv (p m t:Nat) (xs ys:List Nat) (n:Nat):Nat:=sumF p m (n+1) fun i=>mul p m t (xs.getD i 0) (ys.getD (n-i) 0)
def ycZ (p m t:Nat) (xs ys:List Nat) (k n:Nat):Nat:=sumF p m k fun i=>if i≤n then mul p m t (xs.getD i 0) (ys.getD (n-i) 0) else 0
theorem zaM {xs:List Nat} {i:Nat} (h:xs.length≤i):xs.getD i 0=0:=by simp [List.getD,h]
section
variable {p m t:Nat} (hp:2≤p) (hm:1≤m)
include hp hm
theorem zcd (xs ys:List Nat) (k n:Nat):ycZ p m t xs ys k n<p^m:=zf9 hp hm _ _
theorem yfp (xs ys:List Nat) (n:Nat):ycZ p m t xs ys xs.length n=conv p m t xs ys n:=by
  unfold ycZ conv
  rcases Nat.le_total xs.length (n+1) with h|h
  · obtain ⟨d,e⟩:∃d,n+1=xs.length+d:=⟨n+1-xs.length,by omega⟩
    rw [e,zcb hp hm _ xs.length d fun i h1 h2=>by rw [zaM h1,zero_mul hp hm]]
    exact ybP hp hm _ fun i hi=>by rw [if_pos (by omega)]
  · obtain ⟨d,e⟩:∃d,xs.length=n+1+d:=⟨xs.length-(n+1),by omega⟩
    rw [e,zcb hp hm _ (n+1) d fun i h1 h2=>by rw [if_neg (by omega)]]
    exact ybP hp hm _ fun i hi=>by rw [if_pos (by omega)]
end
end Dg
end
section
-- text: MathE
namespace Dg
section
variable {p m t:Nat} (hp:2≤p) (hm:1≤m)
include hp hm
end
end Dg
end
section
-- text: MathF
namespace Dg
section
variable {p m t:Nat} (G:Good p m t)
include G
end
end Dg
end
section
-- text: ExtRd
namespace L2
open PySem PySem.Spec PyProof.Rows
theorem ydE {j:Int} (h0:0≤j) (h1:j<2^62):∀x:Int,-2≤x→x≤j→Builtin.Range.rangeFitsLong x=true:=fun x h2 h3=>by
  unfold Builtin.Range.rangeFitsLong
  rw [Bool.and_eq_true]
  exact ⟨decide_eq_true (by omega),decide_eq_true (by omega)⟩
theorem yeM {j:Int} (h0:0≤j):Builtin.Range.rangeSize 0 j 1=j:=by
  unfold Builtin.Range.rangeSize
  rw [if_pos (by decide)]
  split <;> omega
theorem zeC (r:Addr) (j:Int) (t u v:Tok) (h0:0≤j) (h1:j<2^62) :
    Meets (Builtin.«range.__reversed__» ⟨[.ref r],[]⟩) (fun _ R s=>s.heap.get? r=some { cls:=.type "range",dict:=none,data:=.fields #[.int 0 t,.int j u,.int 1 v],slots:=#[] }∧R (.ok (.ret (Value.ref s.heap.objs.size))) { s with heap:=s.heap.push { cls:=Value.type "range_iterator",data:=.fields #[rawInt (j-1),rawInt j,rawInt (-1)] } }) :=
  .of_wp fun prog w A R s h=>by
    obtain ⟨hp,g,d,tk,os⟩:=s;obtain ⟨hl,h⟩:=h
    have hz:=yeM h0
    have f1:=ydE h0 h1 0 (by omega) h0
    have f2:=ydE h0 h1 j (by omega) (Int.le_refl _)
    have f3:Builtin.Range.rangeFitsLong 1=true:=by decide
    have f4:Builtin.Range.rangeFitsLong (-1)=true:=by decide
    have f5:Builtin.Range.rangeFitsLong (0-1)=true:=by decide
    have hsm:(!(Builtin.Range.rangeFitsLong 0&&Builtin.Range.rangeFitsLong j&&Builtin.Range.rangeFitsLong 1&&Builtin.Range.rangeFitsLong (-1)&&Builtin.Range.rangeFitsLong (0-1)&&Builtin.Range.rangeFitsLong (Builtin.Range.rangeSize 0 j 1)))=false:=by
      rw [hz,f1,f2,f3,f4,f5];rfl
    have hsm2:(Builtin.Range.rangeFitsLong 0&&Builtin.Range.rangeFitsLong j&&Builtin.Range.rangeFitsLong 1&&Builtin.Range.rangeFitsLong (-1)&&Builtin.Range.rangeFitsLong (0-1)&&Builtin.Range.rangeFitsLong (Builtin.Range.rangeSize 0 j 1))=true:=by
      rw [hz,f1,f2,f3,f4,f5];rfl
    have hc0:¬ (!(Builtin.Range.rangeFitsLong 0&&Builtin.Range.rangeFitsLong j&&Builtin.Range.rangeFitsLong 1&&Builtin.Range.rangeFitsLong (-1)&&Builtin.Range.rangeFitsLong (0-1)&&Builtin.Range.rangeFitsLong (Builtin.Range.rangeSize 0 j 1)))=true:=by
      rw [hsm];decide
    wp_walk
    refine ⟨_,rfl,?_⟩
    rw [hsm2,if_pos rfl,hz,show (0:Int)+(j-1)*1=j-1 by omega]
    exact h
theorem zcC {prog:Program} {w:World} {A:Around} {E:Value→Shared→Prop} {s:Shared} {r:Addr} {j:Int} {t u v:Tok} {Q:Value→Shared→Prop} (h0:0≤j) (h1:j<2^62) (hr:IsRange s.heap r 0 j 1 t u v)
    (h:Q (.ref s.heap.objs.size) { s with heap:=s.heap.push { cls:=Value.type "range_iterator",data:=.fields #[rawInt (j-1),rawInt j,rawInt (-1)] } }):wpAny (model prog w) A (call (.builtin "range.__reversed__") [.ref r]) Q E s :=
  call_meets F.slot_range_reversed ⟨_,hr,rfl⟩ F.entry_range_reversed (F.args_range_reversed_1 _) (zeC r j t u v h0 h1) ⟨hr,h⟩
theorem yc9 {prog:Program} {w:World} {A:Around} {E:Value→Shared→Prop} {s:Shared} {r:Addr} {j:Int} {t u v:Tok} {Q₁:Value→Shared→Prop} (h0:0≤j) (h1:j<2^62) (hr:IsRange s.heap r 0 j 1 t u v)
    (h:Q₁ (.ref s.heap.objs.size) { s with heap:=s.heap.push { cls:=Value.type "range_iterator",data:=.fields #[rawInt (j-1),rawInt j,rawInt (-1)] } }) :
    codeAny (model prog w) A (.call (.builtin "reversed.__new__") ⟨[.type "reversed",.ref r],[]⟩) (wants Q₁ E) s:=by
  have hT:s.TypeIs (.ref r) "range":=⟨_,hr,rfl⟩
  refine codeAny_of_tree ?_
  show wpAny _ A.in1 (do checkBuiltinCall "reversed.__new__" ⟨[.type "reversed",.ref r],[]⟩;again (.builtin "reversed.__new__" ⟨[.type "reversed",.ref r],[]⟩)) _ _ s
  refine wpAny_bind (wpAny_of_eq (F.newCall_reversed_1 _) (wpAny_pure ⟨plainId_quiet F.plain_reversed_new _,codeAny_builtin F.entry_reversed_new ?_⟩))
  rw [Around.under_plainId F.plain_reversed_new _]
  unfold Builtin.«reversed.__new__»
  refine wpAny_bind (wpAny_of_eq (newClass_reversed _) ?_)
  try dsimp only
  refine wpAny_bind (wpAny_of_eq (a:=()) (by first|rfl|kernel_rfl) ?_)
  refine wpAny_bind (wpAny_of_eq (a:=()) (by first|rfl|kernel_rfl) ?_)
  try dsimp only
  refine wpAny_bind (wpAny_specialOf hT F.slot_range_reversed.lookup ?_)
  try dsimp only
  refine wpAny_bind (wpAny_of_eq (F.slot_range_reversed.bind _) ?_)
  try dsimp only
  first
  | rw [if_neg (show ¬ ((Value.builtin "range.__reversed__"==Value.none)=true) from Bool.false_ne_true)]
  | (show wpAny _ _ (if (Value.builtin "range.__reversed__"==Value.none)=true then _ else _) _ _ _;rw [if_neg (show ¬ ((Value.builtin "range.__reversed__"==Value.none)=true) from Bool.false_ne_true)])
  refine wpAny_bind (wpAny_rule ?_)
  refine wpAny_bind (m:=runValue (.call (.builtin "range.__reversed__") ⟨[.ref r],[]⟩)) (show wpAny _ _ (call (.builtin "range.__reversed__") [.ref r]) _ _ _ from zcC h0 h1 hr ?_)
  first
  | exact wpAny_pure h
  | exact wpAny_bind (wpAny_pure (wpAny_pure h))
theorem zb9:isSubtype (.type "range_iterator") (.type "reversed")=pure false:=by rw [isSubtype_type];kernel_rfl
theorem zbL {prog:Program} {w:World} {A:Around} {E:Value→Shared→Prop} {s:Shared} {r:Addr} {j:Int} {t u v:Tok} {Q:Value→Shared→Prop} (h0:0≤j) (h1:j<2^62) (hr:IsRange s.heap r 0 j 1 t u v)
    (h:Q (.ref s.heap.objs.size) { s with heap:=s.heap.push { cls:=Value.type "range_iterator",data:=.fields #[rawInt (j-1),rawInt j,rawInt (-1)] } }):wpAny (model prog w) A (call (.type "reversed") [.ref r]) Q E s:=by
  refine callType_other (U:="range_iterator") (Q₁:=fun obj s₁=>obj = .ref s.heap.objs.size∧s₁={ s with heap:=s.heap.push { cls:=Value.type "range_iterator",data:=.fields #[rawInt (j-1),rawInt j,rawInt (-1)] } }) (by decide +kernel) F.create_reversed ⟨_,_,F.mro_reversed⟩ F.made_reversed zb9 (F.typeCall_reversed_1 _) (yc9 h0 h1 hr ⟨rfl,rfl⟩) ?_
  rintro obj s₁ ⟨rfl,rfl⟩
  exact ⟨⟨_,Heap.get?_push_size _ rfl,rfl⟩,h⟩
section
variable {X:Cx}
def zhp (ta:TA):TI:=fun σ H R=>ta σ H fun vs H1=>∃(a:Addr) (n:Nat),vs=[.ref a]∧H1 a=some (.rng 0 (n:Int))∧n≤1000∧R (Itd ((n:Int)-1) n) H1
theorem ygG {a:Expr} {ta:TA} {p pos:Pos} {tg:Expr} (hg:Gl X "reversed") (hm:X.mg "reversed"=none) (ha:PA X [a] ta) (hs:starEach [a] X.env=[(false,eval a X.env)]:=by rfl) :
    PI X tg (.Call (.Name "reversed" p) [a] [] pos) (zhp ta):=by
  intro pins s σ H R I h
  refine Call_ (ybu I hg hm (u:=.type "reversed") zdh (PyProof.Rows.callWith_type1 (thn (ha pos pins s σ H _ I h) fun us s1 ⟨vs,H1,I1,r1,q1⟩=>?_) hs rfl))
  obtain ⟨a,n,e,h1,hn,q⟩:=q1
  subst e
  cases r1 with
  | cons r rr =>
    cases rr
    cases r
    obtain ⟨t,u,v,e⟩:=I1.hok a _ h1
    refine zbL (Int.natCast_nonneg n) (by omega) e ?_
    have hri:IsRangeIter (s1.heap.push { cls:=Value.type "range_iterator",data:=.fields #[rawInt ((n:Int)-1),rawInt (n:Int),rawInt (-1)] }) s1.heap.objs.size ((n:Int)-1+((0:Nat):Int)*(-1)) ((n:Int)-((0:Nat):Int)) (-1):=by
      have e1:(n:Int)-1+((0:Nat):Int)*(-1)=(n:Int)-1:=by simp
      have e2:(n:Int)-((0:Nat):Int)=(n:Int):=by simp
      rw [e1,e2]
      exact Heap.get?_push_size _ rfl
    refine wpAny_pyIter_rangeiter hri ?_
    refine ⟨s1.heap.objs.size,[s1.heap.objs.size],_,_,H1,rfl,I1.kept (t':=s1.toks) fun b o e=>Heap.get?_push_of_some _ e,zdE _ ((n:Int)-1) n,hri,fun b hb=>?_,q⟩
    have e:b=s1.heap.objs.size:=by simpa using hb
    subst e
    exact I1.fpOk (Nat.le_refl _) (I1.hok.fresh (Nat.le_refl _))
theorem ygg:IxR X (fun x y H Q=>rIxL X.K x y H Q∨rIxT X.K x y H Q):=by
  intro value slice pins s σ H x y v u Q I rx ry h hs
  rcases h with h|h
  · exact yan value slice pins s σ H x y v u Q I rx ry h hs
  · exact yau value slice pins s σ H x y v u Q I rx ry h hs
theorem ygn:SlR X (fun x lo hi H Q=>rSlL X.K x lo hi H Q∨rSlA X.K x lo hi H Q):=SlR.or zdS yeK
theorem ygA {tg l:Expr} {tl:TE} (hl:PE X l tl):PI X tg l (fun σ H R=>zgj X.K tl σ H R∨iTup X.K tl σ H R):=by
  intro pins s σ H R I h
  rcases h with h|h
  · exact zbk hl pins s σ H R I h
  · exact zeK hl pins s σ H R I h
end
end L2
end
section
-- text: ExtRh
namespace L2
open PySem PySem.Spec PyProof.Rows
def Exc (h:Heap) (e C:Addr) (tb:Option Addr):Prop:=∃oe vs,h.get? e=some oe∧oe.cls = .ref C∧oe.dict=none∧oe.data = .fields vs∧
  match tb with
  | none=>vs[1]?=some .none
  | some T=>vs[1]?=some (.ref T)∧T≠e∧∃oT ts,h.get? T=some oT∧oT.data = .fields ts∧ts[3]?=some .none
structure zds (l:List Env) (e C:Addr) (tb:Option Addr) (h h':Heap):Prop where
  exc:∃T,h.objs.size≤T∧Exc h' e C (some T)
  keep:∀b o,b≠e→tb≠some b→b∉frs l→h.get? b=some o→h'.get? b=some o
  slot:∀b o,b≠e→tb≠some b→h.get? b=some o→∃sl,h'.get? b=some { o with slots:=sl }
section
variable {M:Model} {A:Around} {E:Value→Shared→Prop} {s:Shared}
theorem ydB {base:Heap} {env:Env} {outer:List Env} {L e C:Addr} {oe:Obj} {vs:Array Value} {head:Value} {hadNext:Bool} {Q:Unit→Shared→Prop}
    (hfr:A.frames=some (env::outer)) (hl:s.heap.FunFrames base (env::outer)) (hf:env.frame=some L)
    (he:s.heap.get? e=some oe) (hc:oe.cls = .ref C) (hdc:oe.dict=none) (hd:oe.data = .fields vs) (hv:1<vs.size)
    (h:∀h',zds (env::outer) e C none s.heap h'→Q () { s with heap:=h' }) :
    wpAny M A (do let a ←frameOf env;let pl ←entryPlaceOf L hadNext;let b ←EntryCells.newEntry head a .none (rawInt L) .none pl;setField (.ref e) 1 b) (fun _ s'=>wpAny M A (setFlight (.ref e) none) Q E s') E s:=by
  have hene:e∉frs (env::outer):=fun hm=>by
    obtain ⟨_,o,ho,hnf⟩:=hl.mem hm
    rw [he] at ho;cases ho;exact hnf vs hd
  refine wpAny_bind (wpAny_frameOf_fun hfr hl hf fun h₁ hs₁=>?_)
  refine wpAny_bind (wpAny_entryPlaceOf fun pl hpl=>?_)
  unfold EntryCells.newEntry newFields
  refine wpAny_bind (wpAny_newObj_type ?_ (hpl.sizeOk5 _ _ _ _ _))
  have he1:h₁.get? e=some oe:=(hs₁.2.1 e hene).trans he
  have nTe:h₁.objs.size≠e:=Nat.ne_of_gt (Heap.lt_size he1)
  obtain ⟨ts,hts,ht3⟩:∃ts:Array Value,([head,.ref L,.none,rawInt L,.none]++(if pl.isEmpty then List.replicate 6 Value.none else pl)).toArray=ts∧3<ts.size:=⟨_,rfl,by simp only [List.size_toArray,List.length_append,List.length_cons,List.length_nil];omega⟩
  rw [hts]
  have hT2:(h₁.push { cls:=.type "traceback",dict:=none,data:=.fields ts }).get? h₁.objs.size=some { cls:=.type "traceback",dict:=none,data:=.fields ts }:=Heap.get?_push_size _ rfl
  have he2:=Heap.get?_push_of_some (h:=h₁) { cls:=.type "traceback",dict:=none,data:=.fields ts } he1
  have k2:∀b o,h₁.get? b=some o→(h₁.push { cls:=.type "traceback",dict:=none,data:=.fields ts }).get? b=some o:=fun b o e=>Heap.get?_push_of_some _ e
  generalize h₁.push { cls:=.type "traceback",dict:=none,data:=.fields ts }=h₂ at hT2 he2 k2 ⊢
  refine wpAny_setField he2 hd hv ?_
  have hd3:=Obj.data_mapFields hd (·.setIfInBounds 1 (Value.ref h₁.objs.size))
  have he3:=Heap.get?_update_self (Obj.mapFields (·.setIfInBounds 1 (Value.ref h₁.objs.size))) he2 (Obj.isFreed_of_fields hd3)
  have o3:∀b,b≠e→(h₂.update e (Obj.mapFields (·.setIfInBounds 1 (Value.ref h₁.objs.size)))).get? b=h₂.get? b:=fun b hb=>Heap.get?_update_other _ _ (Ne.symm hb)
  have hT3:=(o3 _ nTe).trans hT2
  have hc3:(Obj.mapFields (·.setIfInBounds 1 (Value.ref h₁.objs.size)) oe).cls = .ref C:=(Obj.cls_mapFields _ _).trans hc
  have hdc3:(Obj.mapFields (·.setIfInBounds 1 (Value.ref h₁.objs.size)) oe).dict=none:=by
    obtain ⟨c,d,dt,sl⟩:=oe;dsimp only at hd hdc;subst hd;subst hdc;rfl
  generalize h₂.update e (Obj.mapFields (·.setIfInBounds 1 (Value.ref h₁.objs.size)))=h₃ at he3 o3 hT3 ⊢
  unfold setFlight
  refine wpAny_bind (wpAny_field he3 hd3 (x:=.ref h₁.objs.size) (by simp [hv]) ?_)
  rw [if_pos (show (Value.ref h₁.objs.size != Value.none)=true from by simp)]
  refine wpAny_setField hT3 rfl ht3 (h _ ?_)
  have hdT:=Obj.data_mapFields (o:={ cls:=.type "traceback",dict:=none,data:=.fields ts }) rfl (·.setIfInBounds 3 ((none:Option Addr).elim Value.none fun f=>rawInt f))
  have hT4:=Heap.get?_update_self (Obj.mapFields (·.setIfInBounds 3 ((none:Option Addr).elim Value.none fun f=>rawInt f))) hT3 (Obj.isFreed_of_fields hdT)
  have o4:∀b,b≠h₁.objs.size→(h₃.update h₁.objs.size (Obj.mapFields (·.setIfInBounds 3 ((none:Option Addr).elim Value.none fun f=>rawInt f)))).get? b=h₃.get? b:=fun b hb=>Heap.get?_update_other _ _ (Ne.symm hb)
  have up:∀b o,b≠e→h₁.get? b=some o→(h₃.update h₁.objs.size (Obj.mapFields (·.setIfInBounds 3 ((none:Option Addr).elim Value.none fun f=>rawInt f)))).get? b=some o:=fun b o hb e1 =>
    (o4 b (Nat.ne_of_lt (Heap.lt_size e1))).trans ((o3 b hb).trans (k2 b o e1))
  refine ⟨⟨h₁.objs.size,by rw [hs₁.1];exact Nat.le_refl _,_,_,(o4 e (Ne.symm nTe)).trans he3,hc3,hdc3,hd3,by simp [hv],nTe,_,_,hT4,hdT,by simp [ht3]⟩,fun b o hb _ hn e1=>up b o hb ((hs₁.2.1 b hn).trans e1),fun b o hb _ e1=>?_⟩
  obtain ⟨sl,hs⟩:=hs₁.2.2 b o e1
  exact ⟨sl,up b _ hb hs⟩
theorem zep {base:Heap} {env:Env} {outer:List Env} {L e C:Addr} {tb:Option Addr} {Q:Unit→Shared→Prop}
    (hfr:A.frames=some (env::outer)) (hl:s.heap.FunFrames base (env::outer)) (hf:env.frame=some L) (x:Exc s.heap e C tb)
    (h:∀h',zds (env::outer) e C tb s.heap h'→Q () { s with heap:=h' }):wpAny M A (noteFrame (.ref e) env) (fun _ s'=>wpAny M A (setFlight (.ref e) none) Q E s') E s:=by
  obtain ⟨oe,vs,he,hc,hdc,hd,ht⟩:=x
  unfold noteFrame
  simp only [hf]
  cases tb with
  | none =>
    have h1:vs[1]?=some .none:=ht
    have hv:=(Array.getElem?_eq_some_iff.mp h1).1
    refine wpAny_bind (wpAny_field he hd h1 ?_)
    rw [if_neg (by decide)]
    exact ydB hfr hl hf he hc hdc hd hv h
  | some T =>
    obtain ⟨h1,nTe,oT,ts,hT,hdT,h3⟩:=ht
    have hv:=(Array.getElem?_eq_some_iff.mp h1).1
    have h3v:=(Array.getElem?_eq_some_iff.mp h3).1
    refine wpAny_bind (wpAny_field he hd h1 ?_)
    rw [if_pos (show (Value.ref T != Value.none)=true from by simp)]
    refine wpAny_bind (wpAny_field hT hdT h3 ?_)
    rw [if_neg (show ¬ ((Value.none==rawInt L)=true) from by simp [rawInt])]
    refine wpAny_bind (wpAny_setField hT hdT h3v ?_)
    have other:∀b,b≠T→(s.heap.update T (Obj.mapFields (·.setIfInBounds 3 Value.none))).get? b=s.heap.get? b:=fun b hb=>Heap.get?_update_other _ _ (Ne.symm hb)
    have szT:(s.heap.update T (Obj.mapFields (·.setIfInBounds 3 Value.none))).objs.size=s.heap.objs.size:=(Heap.SameBut.update ..).1
    have noRecord:∀b o,s.heap.get? b=some o→(∀vs,o.data≠.fields vs)→b≠T:=fun b o hb hnf q=>by
      rw [q,hT] at hb;injection hb with hb;subst hb;exact hnf ts hdT
    refine ydB hfr (hl.of_keeps fun b o hb hnf=>⟨o,(other b (noRecord b o hb hnf)).trans hb,rfl⟩) hf ((other e (Ne.symm nTe)).trans he) hc hdc hd hv fun h' y=>h h' ?_
    obtain ⟨⟨T2,a1,a2⟩,k,sl⟩:=y
    have a1':s.heap.objs.size≤T2:=by rw [←szT];exact a1
    refine ⟨⟨T2,a1',a2⟩,fun b o hb hb2 hn e1=>?_,fun b o hb hb2 e1=>?_⟩
    · exact k b o hb (fun z=>nomatch z) hn ((other b fun z=>hb2 (by rw [z])).trans e1)
    · exact sl b o hb (fun z=>nomatch z) ((other b fun z=>hb2 (by rw [z])).trans e1)
end
def CX1 (P:Program) (w:World):CXT:=fun outer H s E e s'=>∃a C T H',e = .ref a∧s'.os=s.os∧AllBare s'.gens∧Un (frs outer) [] H H' s.heap s'.heap∧HOk P w H' s'.heap∧Exc s'.heap a C (some T)∧
  H' a=none∧H' T=none∧s.heap.get? a=none∧s.heap.get? T=none∧E (.ref C) none H'
theorem HOk.left {P:Program} {w:World} {H:Hp} {h h':Heap} (x:HOk P w H h) (k:∀b o,H b≠none→h.get? b=some o→h'.get? b=some o):HOk P w H h':=fun a o e =>
  (x a o e).stay (fun b u hb q=>k b u (by rcases hb with rfl|hb <;> (rw [‹H _=_›];exact fun z=>nomatch z)) q) (fun _ q=>q) fun _ _ q=>q
theorem zds.un {P:Program} {w:World} {env:Env} {outer:List Env} {e C:Addr} {tb:Option Addr} {H0 H:Hp} {h0 h h':Heap} {fs:List Addr} (y:zds (env::outer) e C tb h h') (u:Un fs [] H0 H h0 h) (hok:HOk P w H h)
    (ne:h0.get? e=none) (nt:∀T,tb=some T→h0.get? T=none) (He:H e=none) (Ht:∀T,tb=some T→H T=none) (Hf:∀b∈frs (env::outer),H b=none)
    (hfs:∀b o,h0.get? b=some o→b∈frs (env::outer)→b∈fs):Un fs [] H0 H h0 h'∧HOk P w H h':=by
  have nb:∀b o,h0.get? b=some o→b≠e∧tb≠some b:=fun b o q=>⟨fun z=>(by rw [z,ne] at q;cases q),fun z=>(by rw [nt b z] at q;cases q)⟩
  refine ⟨⟨fun b o q n hb hx=>?_,fun b o q n hb hx=>?_,fun b o q n hx=>u.free b o q n hx,fun b o q hx=>?_,u.tups,u.frzs,u.tbls⟩,hok.left fun b o hb q=>?_⟩
  · exact y.keep b o (nb b o q).1 (nb b o q).2 (fun z=>hb (hfs b o q z)) (u.keep b o q n hb hx)
  · obtain ⟨sl,e1⟩:=u.slot b o q n hb hx
    obtain ⟨sl',e2⟩:=y.slot b _ (nb b o q).1 (nb b o q).2 e1
    exact ⟨sl',e2⟩
  · obtain ⟨o',e1⟩:=u.there b o q hx
    obtain ⟨sl',e2⟩:=y.slot b _ (nb b o q).1 (nb b o q).2 e1
    exact ⟨_,e2⟩
  · exact y.keep b o (fun z=>hb (by rw [z];exact He)) (fun z=>hb (Ht b z)) (fun z=>hb (Hf b z)) q
theorem yds {env:Env} {outer:List Env} {L b:Addr} (hf:env.frame=some L):b∈frs (env::outer)↔b=L∨b∈frs outer:=by
  unfold frs;rw [List.filterMap_cons,hf];exact List.mem_cons
section
variable {P:Program} {w:World} {K:PySem.W.Frag} {mg:Str→Option Value} {base:Heap} {N:List Str} {qual:Str} {scope:Scope} {f:Addr} {cd:Value} {A:Around} {outer:List Env} {s₀:Shared} {H₀:Hp} {E:XK}
theorem zfF {pins:List (Addr×Obj)} {σ:St} {H:Hp} {s:Shared} {a C:Addr} {tb:Option Addr} (I:Inv (cxOf (CX1 P w) P w K mg base N qual scope f cd A outer s₀ H₀ E) pins σ H s) (x:Exc s.heap a C tb)
    (ha:H a=none) (ht:∀T,tb=some T→H T=none) (na:s₀.heap.get? a=none) (nt:∀T,tb=some T→s₀.heap.get? T=none) (q:E (.ref C) none H) :
    (cxOf (CX1 P w) P w K mg base N qual scope f cd A outer s₀ H₀ E).xe (.ref a) s:=by
  have hs:=I.stack
  have hF:=I.stkFree
  refine wpAny_bind (zep (base:=base) I.ok.frames hs rfl x fun h' y=>?_)
  have z:=y.un (P:=P) (w:=w) (fs:=frs outer) (H0:=H₀) (H:=H) (h0:=s₀.heap) I.base I.hok na nt ha ht hF fun b o q hb=>by
    rcases (yds rfl).mp hb with e|e
    · have:b<s₀.heap.objs.size:=Heap.lt_size q
      rw [e] at this
      exact absurd this (Nat.lt_irrefl _)
    · exact e
  obtain ⟨T,hT,x'⟩:=y.exc
  exact ⟨a,C,T,H,rfl,I.os,I.bare,z.1,z.2,x',ha,I.hok.fresh hT,na,Heap.get?_none_of_le (Nat.le_trans I.sz hT),q⟩
end
end L2
end
section
-- text: ExtRi
namespace L2
open PySem PySem.Spec PyProof.Rows
abbrev vmro:List Value:=[.type "ValueError",.type "Exception",.type "BaseException",.type "object"]
def zbH (K:PySem.W.Frag) (C:Addr):Bool:=PySem.W.excIn K C vmro "ValueError.__new__"&&(PySem.W.clsIn K C).isSome &&
  (PySem.W.findIn K (.ref C) "__getattribute__"==some (some (.builtin "BaseException.__getattribute__"))&&PySem.W.findIn K (.ref C) "__getattr__"==some none&&PySem.W.findIn K (.ref C) "__class__"==some (some (.builtin "object.__class__"))) &&
  (PySem.W.mroIn K C (.type "object")==some true&&PySem.W.mroIn K C (.type "BaseException")==some true&&PySem.W.kitOne K (.ref C) (.type "ValueError")==some true) &&
  (PySem.W.specialIn K (.builtin "object.__class__") "__get__"==some (some (.builtin "getset_descriptor.__get__"))&&PySem.W.takesIn K (.builtin "object.__class__")==some true)
theorem yg1 {K:PySem.W.Frag} {h:Heap} {mg:Str→Option Value} {x:Str} {C:Addr} (X:K.In h) (e:mg x=some (.ref C)) (q:PySem.W.excIn K C vmro "ValueError.__new__"=true):OwnCls x C vmro "ValueError.__new__" mg h:=by
  refine ⟨e,?_⟩
  unfold PySem.W.excIn at q
  split at q
  · rename_i dd cd sl ho
    split at q
    · rename_i C' bm k0 k1 k2 k3 n k5 hm hs
      simp only [Bool.and_eq_true,beq_iff_eq,Bool.not_eq_true'] at q
      obtain ⟨⟨⟨⟨⟨rfl,rfl⟩,hdel⟩,ht⟩,hok⟩,hni⟩:=q
      obtain ⟨nm,bs,mro,ns,qn,hd,sn,sub,ab,col,del⟩:=cd
      dsimp only at hm hdel hok hni
      subst hm hdel
      have hsl:sl = #[k0,k1,k2,k3,some (.builtin "ValueError.__new__"),k5]:=by
        obtain ⟨l⟩:=sl
        simp only at hs
        rw [hs]
      subst hsl
      exact ⟨bm,ns,nm,qn,bs,hd,sn,sub,ab,col,dd,k0,k1,k2,k3,k5,_,X _ _ ho,.of_isNs (PySem.W.isNs_of_in X hok),PySem.W.nsMap_none_of_in X hok hni,PySem.W.tail_of_in X ht⟩
    · cases q
  · cases q
theorem zaW.there {P:Program} {w:World} {H:Hp} {h:Heap} {a:Addr} {o:HO} (x:zaW P w H h a o):∃u,h.get? a=some u:=by
  induction o with
  | lst xs=>obtain ⟨_,_,_,_,e⟩:=x;exact ⟨_,e⟩
  | tup xs=>obtain ⟨_,_,_,_,e,_⟩:=x;exact ⟨_,e⟩
  | dK kvs=>obtain ⟨_,_,_,_,o,_,_,e,_⟩:=x;exact ⟨_,e⟩
  | dT kvs=>obtain ⟨_,_,_,_,o,_,_,e,_⟩:=x;exact ⟨_,e⟩
  | set S n=>obtain ⟨o,_,_,_,e,_⟩:=x;exact ⟨_,e⟩
  | ins C dx fs=>obtain ⟨_,_,_,e,_⟩:=x;exact ⟨_,e⟩
  | own y=>exact x
  | xd fs=>obtain ⟨_,⟨_,_,_,e,_⟩,_⟩:=x;exact ⟨_,e⟩
  | rng lo hi=>obtain ⟨_,_,_,e⟩:=x;exact ⟨_,e⟩
  | frz ob u ih=>exact ⟨_,x.1⟩
  | tbl ps=>exact ⟨_,x⟩
  | met f y=>exact ⟨_,x⟩
  | ext φ=>exact x.2.1
theorem HOk.none_of {P:Program} {w:World} {H:Hp} {h:Heap} {a:Addr} (x:HOk P w H h) (n:h.get? a=none):H a=none:=by
  cases e:H a with
  | none=>rfl
  | some o =>
    obtain ⟨u,q⟩:=(x a o e).there
    rw [n] at q;cases q
theorem Un.none_up {fs:List Addr} {H H':Hp} {h h':Heap} {b:Addr} (u:Un fs [] H H' h h') (n:h'.get? b=none):h.get? b=none:=by
  cases e:h.get? b with
  | none=>rfl
  | some o =>
    obtain ⟨o',e'⟩:=u.there b o e (fun z=>nomatch z)
    rw [n] at e';cases e'
section
variable {P:Program} {w:World} {K:PySem.W.Frag} {mg:Str→Option Value} {base:Heap} {N:List Str} {qual:Str} {scope:Scope} {f:Addr} {cd:Value} {A:Around} {outer:List Env} {s₀:Shared} {H₀:Hp} {E:XK}
theorem yfJ {x:Str} {C:Addr} {e₀:Expr} {es:List Expr} {t:TA} {np cpos pos:Pos} {k:Nat} (hq:zbH K C=true) (hr:Room k (A.deeper (envOfC qual scope s₀.heap.objs.size f cd)))
    (hg:Gl (cxOf (CX1 P w) P w K mg base N qual scope f cd A outer s₀ H₀ E) x) (hm:mg x=some (.ref C)) (ha:PA (cxOf (CX1 P w) P w K mg base N qual scope f cd A outer s₀ H₀ E) (e₀::es) t) (hdb:(x==("__debug__":Str))=false:=by decide)
    (he:starEach (e₀::es) (envOfC qual scope s₀.heap.objs.size f cd)=(false,eval e₀ (envOfC qual scope s₀.heap.objs.size f cd))::starEach es (envOfC qual scope s₀.heap.objs.size f cd):=by rfl)
    (hpl:(backTo cpos (starEach es (envOfC qual scope s₀.heap.objs.size f cd))).any (·.1)=false:=by rfl) :
    PS (cxOf (CX1 P w) P w K mg base N qual scope f cd A outer s₀ H₀ E) (.Raise (some (.Call (.Name x np) (e₀::es) [] cpos)) none pos) (fun _ σ H=>t σ H fun vs H1=>vs.length≤sizeLine∧E (.ref C) none H1):=by
  intro pins s σ H D I h
  have qx:PySem.W.excIn K C vmro "ValueError.__new__"=true:=by
    unfold zbH at hq;simp only [Bool.and_eq_true] at hq;exact hq.1.1.1.1
  obtain ⟨tl,N',nm,q,bs,hdct,sn,sub,ab,col,dd,k0,k1,k2,k3,k5,mN,hC,hN,hni,T⟩:=(yg1 (x:=x) (mg:=mg) I.mod.kin hm qx).obj
  refine wpAny_Raise_call_subU (C:=C) (nm:=nm) (q:=q) (N:=N') (bs:=bs) (bm:=tl) (hdct:=hdct) (sn:=sn) (sub:=sub) (ab:=ab) (col:=col) (dd:=dd) (k0:=k0) (k1:=k1) (k2:=k2) (k3:=k3) (k5:=k5)
    PySem.F.excBase_ValueError (by decide +kernel) PySem.F.excBase_ValueError (mN:=mN) (T.hasType PySem.F.excBase_ValueError.hasBase) hr.hd ?_ hni (zct I hg hm ⟨rfl,?_⟩ hdb)
  · show (backTo cpos (starEach (e₀::es) (envOfC qual scope s₀.heap.objs.size f cd))).any (·.1)=false
    rw [he]
    show (false||(backTo cpos (starEach es (envOfC qual scope s₀.heap.objs.size f cd))).any (·.1))=false
    rw [hpl];rfl
  · have z:=ha cpos pins s σ H _ I h
    show wpAny _ _ (evalArgs (.ref C) true (backTo cpos (starEach (e₀::es) (envOfC qual scope s₀.heap.objs.size f cd))) []) _ _ _
    replace z:wpAny _ _ (spliced (backTo cpos (starEach (e₀::es) (envOfC qual scope s₀.heap.objs.size f cd)))) _ _ _:=z
    rw [he] at z ⊢
    refine Calls.evalArgs_plain (thn z fun us s2 ⟨vs,H1,I1,r,hv,q⟩=>⟨rfl,by rw [←r.length];exact hv,I1.bk _ _ hC,hN.keeps I1.bk,T.keeps I1.bk,fun h' e hme=>?_⟩)
    obtain ⟨kp,new,t0,hthere,_,_⟩:=hme
    have I2:=I1.kept (h':=h') (t':=s2.toks) kp
    exact zfF I2 (tb:=none) ⟨_,_,hthere,rfl,rfl,rfl,rfl⟩ (I1.hok.none_of new) (fun T z=>nomatch z) (I1.base.none_up new) (fun T z=>nomatch z) q
theorem Fun.okX {x qual:Str} {st:Stmt} {f:Addr} {fd:FuncData} {N ps:List Str} {k:Nat} {sp:Sp} (F:Fun K x qual st f fd) (S:yaj N ps (zad st)) (len:∀vs H Q E,sp vs H Q E→vs.length=ps.length)
    (hbody:∀(cdv:Value) (A:Around) (outer:List Env) (s:Shared) (H:Hp) (vs:List V) (Q:VK) (E:XK),Room k (A.deeper (envOfC qual (zad st) s.heap.objs.size f cdv))→sp vs H Q E→
      ∃t,PSs (cxOf (CX1 P w) P w K mg base N qual (zad st) f cdv A outer s H E) (yah st) t∧t { nx:=fun _ H'=>Q .non H',rt:=Q } (zc8 N vs) H):FnOk P w K mg base (CX1 P w) (k+1) f fd ps sp:=by
  obtain ⟨oc,od,kV,doc,pm,an,cdv,ct,osl,rfl,lk,hcd⟩:=F.ex
  exact zg2 lk hcd S len fun A outer s H vs Q E hr hsp=>hbody cdv A outer s H vs Q E hr hsp
end
def HasX (P:Program) (w:World) (K:PySem.W.Frag) (mg:Str→Option Value) (base:Heap) (n:Nat) (x:Str) (ps:List Str) (sp:Sp):Prop :=
  ∃f fd,FnOk P w K mg base (CX1 P w) n f fd ps sp∧zdT K fd ps []∧PySem.W.keepIn K (.ref f)=true∧mg x=some (.ref f)
section
variable {P:Program} {w:World} {K:PySem.W.Frag} {mg:Str→Option Value} {base:Heap} {N:List Str} {qual:Str} {scope:Scope} {f:Addr} {cd:Value} {A:Around} {outer:List Env} {s₀:Shared} {H₀:Hp} {E:XK}
end
abbrev zdQ (X:Cx) (pins:List (Addr×Obj)) (F:Addr→St→Hp→Prop):Cx:={ X with pn:=X.pn++pins,xe:=fun e s'=>∃σ H s,Inv X pins σ H s∧CX1 X.prog X.w X.stack H s (fun cls _ H'=>∃C,cls = .ref C∧F C σ H') e s' }
abbrev ycV (X:Cx) (a:Addr):Cx:={ X with A:=X.A.mark (some (.ref a)),calm:=false,xe:=fun _ _=>False }
section
variable {X:Cx} {pins pins':List (Addr×Obj)} {σ:St} {H:Hp} {s:Shared} {F:Addr→St→Hp→Prop} {a:Addr}
theorem Inv.toTry (I:Inv X pins σ H s):Inv (zdQ X pins F) [] σ H s :=
  ⟨⟨I.ok.mod,I.ok.kind,I.ok.glob,I.ok.blt,I.ok.above,I.ok.inj,I.ok.has,I.ok.cab,I.ok.hd,I.ok.frames,I.ok.stk,I.ok.exf,I.ok.bs,I.ok.bsz,I.ok.noex,I.ok.exfs,I.ok.funs,I.ok.frf⟩,
    I.os,I.bare,I.base,I.loc,I.cell,I.free,I.freeC,fun p hp=>I.pin p (by simpa [zdQ] using hp),I.hok,I.len⟩
theorem Inv.ofTry (I:Inv (zdQ X pins F) pins' σ H s):Inv X pins σ H s :=
  ⟨⟨I.ok.mod,I.ok.kind,I.ok.glob,I.ok.blt,I.ok.above,I.ok.inj,I.ok.has,I.ok.cab,I.ok.hd,I.ok.frames,I.ok.stk,I.ok.exf,I.ok.bs,I.ok.bsz,I.ok.noex,I.ok.exfs,I.ok.funs,I.ok.frf⟩,
    I.os,I.bare,I.base,I.loc,I.cell,I.free,I.freeC,fun p hp=>I.pin p (List.mem_append_left _ hp),I.hok,I.len⟩
theorem Inv.toSuite (I:Inv X pins σ H s):Inv (ycV X a) pins σ H s :=
  ⟨⟨I.ok.mod,I.ok.kind,I.ok.glob,I.ok.blt,I.ok.above,I.ok.inj,I.ok.has,I.ok.cab,fun z=>(by cases z),I.ok.frames,I.ok.stk,I.ok.exf,I.ok.bs,I.ok.bsz,I.ok.noex,I.ok.exfs,I.ok.funs,I.ok.frf⟩,
    I.os,I.bare,I.base,I.loc,I.cell,I.free,I.freeC,I.pin,I.hok,I.len⟩
theorem Inv.ofSuite (ok:X.Ok) (I:Inv (ycV X a) pins σ H s):Inv X pins σ H s :=
  ⟨ok,I.os,I.bare,I.base,I.loc,I.cell,I.free,I.freeC,I.pin,I.hok,I.len⟩
end
def zgN (sp:Sp) (F:Addr→St→Hp→Prop) (t:TA):TE:=fun σ H Q=>t σ H fun vs H1=>sp vs H1 Q (fun cls _ H'=>∃C,cls = .ref C∧F C σ H')
theorem zfG {X:Cx} {pins₀:List (Addr×Obj)} {F:Addr→St→Hp→Prop} {n k:Nat} {x:Str} {ps:List Str} {sp:Sp} {e:Expr} {es:List Expr} {t:TA} {p pos:Pos} (h:HasX X.prog X.w X.K X.mg X.base n x ps sp) (hr:Room k X.A) (hle:n≤k)
    (hg:Gl X x) (ha:PA (zdQ X pins₀ F) (e::es) t) (hdb:(x==("__debug__":Str))=false:=by decide) (he:starEach (e::es) X.env=(false,eval e X.env)::starEach es X.env:=by rfl) (hpl:(backTo pos (starEach es X.env)).any (·.1)=false:=by rfl) :
    PE (zdQ X pins₀ F) (.Call (.Name x p) (e::es) [] pos) (zgN sp F t):=by
  obtain ⟨f,fd,G,B,kp,m⟩:=h
  intro pins s σ H Q I h
  refine wpAny_Call_Name_kw (zct (X:=zdQ X pins₀ F) I hg m ?_ hdb)
  refine PySem.W.callWith_K (h₀:=X.base) I.ok.mod.kin kp (thn (ha pos pins s σ H _ I h) fun us s1 ⟨vs,H1,I1,r,q⟩=>⟨I1.kIn,?_⟩) he hpl
  have hl:us.length=ps.length:=by rw [←r.length];exact G.len _ _ _ _ q
  have hb:=B s1 us I1.kIn (by rw [List.append_nil];exact hl)
  rw [List.append_nil] at hb
  refine wpAny_call (codeAny_mono (G.run X.A X.stack s1 H1 ⟨us,[]⟩ us vs Q _ (hr.mono hle) I1.env0 hb r q) fun rr s' hq=>?_)
  cases rr with
  | error e=>exact ⟨σ,H1,s1,I1.ofTry,hq⟩
  | ok fl =>
    cases fl with
    | ret u=>exact I1.after hq
    | next=>exact False.elim hq
    | brk=>exact False.elim hq
    | cont=>exact False.elim hq
def ExcO (a C:Addr):HO:=.ext fun h=>∃oe vs,h.get? a=some oe∧oe.cls = .ref C∧oe.dict=none∧oe.data = .fields vs
theorem HOk.track {P:Program} {w:World} {H:Hp} {h:Heap} {a:Addr} {o:HO} (x:HOk P w H h) (hn:H a=none) (new:zaW P w (upd H a o) h a o):HOk P w (upd H a o) h:=fun b u e=>by
  by_cases hb:b=a
  · subst hb;rw [zab] at e;cases e;exact new
  · rw [zag hb] at e
    exact (x b u e).stay (fun c v _ q=>q) (fun c q=>by rw [zag (yae q hn)];exact q) fun c xs q=>by rw [zag (yae q hn)];exact q
theorem Un.track {fs:List Addr} {H H':Hp} {h h':Heap} {a:Addr} {o:HO} (u:Un fs [] H H' h h') (hn:h.get? a=none) (hH:H' a=none):Un fs [] H (upd H' a o) h h' where
  keep:=u.keep
  slot:=u.slot
  free:=fun b ob q n hx=>by rw [zag (fun z=>by rw [z,hn] at q;cases q)];exact u.free b ob q n hx
  there:=u.there
  tups:=fun b xs q=>by have:=u.tups b xs q;rw [zag (yae this hH)];exact this
  frzs:=fun b ob xs q=>by have:=u.frzs b ob xs q;rw [zag (yae this hH)];exact this
  tbls:=fun b ps q=>by obtain ⟨more,this⟩:=u.tbls b ps q;exact ⟨more,by rw [zag (yae this hH)];exact this⟩
theorem ybS {X:Cx} {M:Model} {A:Around} {E:Value→Shared→Prop} {pins:List (Addr×Obj)} {σ:St} {H:Hp} {s:Shared} {i:Nat} {x:Str} {pos:Pos} {Q:Unit→Shared→Prop} (I:Inv X pins σ H s) (hN:X.N.Nodup) (hi:X.N[i]?=some x) (hk:X.env.scope.names.lookup x=some .local)
    (h:∀s',Inv X pins (σ.set i none) H s'→Q () s'):wpAny M A (do bindName X.env x .none;unbindBehindTheSuite X.env x pos) Q E s:=by
  obtain ⟨m,hn,hl⟩:=id I.loc
  have hcls:(X.env.scope.kind==.class||(X.env.scope.kind==.module&&X.env.locals != X.env.globals))=false:=by rw [I.ok.kind];rfl
  have hiσ:i < σ.length:=by rw [I.len];exact (List.getElem?_eq_some_iff.mp hi).1
  have cne:=I.cne
  refine wpAny_nameGoes_keeps hk hn hcls fun h' v hn' hs=>?_
  obtain ⟨oL,_,_,hoL,_⟩:=id hn
  refine h _ ⟨I.ok,I.os,I.bare,⟨fun b o e n hb hx=>?_,fun b o e n hb hx=>?_,I.base.free,fun b o e hx=>?_,I.base.tups,I.base.frzs,I.base.tbls⟩,⟨_,hn',fun j y v' e1 e2 e3=>?_⟩,fun y c e=>?_,I.free,I.freeC,fun p hp=>?_,fun b ob e=>?_,by simpa using I.len⟩
  · exact (hs.2 b (Nat.ne_of_lt (Nat.lt_of_lt_of_le (Heap.lt_size e) I.ok.above))).trans (I.base.keep b o e n hb hx)
  · obtain ⟨sl,e1⟩:=I.base.slot b o e n hb hx
    exact ⟨sl,(hs.2 b (Nat.ne_of_lt (Nat.lt_of_lt_of_le (Heap.lt_size e) I.ok.above))).trans e1⟩
  · obtain ⟨o',e1⟩:=I.base.there b o e hx
    exact ⟨o',(hs.2 b (Nat.ne_of_lt (Nat.lt_of_lt_of_le (Heap.lt_size e) I.ok.above))).trans e1⟩
  · by_cases hj:j=i
    · subst hj
      rw [List.getElem?_set_self hiσ] at e2
      cases e2
    · rw [List.getElem?_set_ne (Ne.symm hj)] at e2
      obtain ⟨u',r',q⟩:=hl j y v' e1 e2 e3
      refine ⟨u',r',?_⟩
      rcases q with ⟨k,e⟩ | ⟨k,c,e,z⟩
      · refine .inl ⟨k,?_⟩
        have:y≠x:=fun e=>hj (yde hN e1 (e ▸ hi))
        simp [this,e]
      · exact .inr ⟨k,c,e,z.sameBut hs (cne y c e)⟩
  · obtain ⟨w',z⟩:=I.cell y c e
    exact ⟨w',z.sameBut hs (cne y c e)⟩
  · obtain ⟨e,n,ne,nf,d⟩:=I.pin p hp
    exact ⟨(hs.2 p.1 ne).trans e,n,ne,nf,d⟩
  · refine (I.hok b ob e).stay (fun c w' hc q=>(hs.2 c ?_).trans q) (fun _ q=>q) fun _ _ q=>q
    rintro rfl
    rcases hc with rfl|hc
    · rw [I.free] at e;cases e
    · rw [I.free] at hc;cases hc
theorem zds.again {l:List Env} {e C T:Addr} {tb:Option Addr} {h h':Heap} (y:zds l e C tb h h') (hT:h.objs.size≤T) (x:Exc h' e C (some T)):zds l e C tb h (h'.update T (Obj.mapFields (·.setIfInBounds 3 .none))):=by
  obtain ⟨oe,vs,he,hc,hdc,hd,h1,nTe,oT,ts,hoT,hdT,h3⟩:=x
  have o:∀b,b≠T→(h'.update T (Obj.mapFields (·.setIfInBounds 3 .none))).get? b=h'.get? b:=fun b hb=>Heap.get?_update_other _ _ (Ne.symm hb)
  have hd4:=Obj.data_mapFields hdT (·.setIfInBounds 3 Value.none)
  have hT4:=Heap.get?_update_self (Obj.mapFields (·.setIfInBounds 3 Value.none)) hoT (Obj.isFreed_of_fields hd4)
  have nb:∀b ob,h.get? b=some ob→b≠T:=fun b ob q z=>absurd (Heap.lt_size q) (by rw [z];exact Nat.not_lt.mpr hT)
  exact ⟨⟨T,hT,oe,vs,(o e (Ne.symm nTe)).trans he,hc,hdc,hd,h1,nTe,_,_,hT4,hd4,by simp [(Array.getElem?_eq_some_iff.mp h3).1]⟩,fun b ob h1 h2 h3 q=>(o b (nb b ob q)).trans (y.keep b ob h1 h2 h3 q),fun b ob h1 h2 q=>(let ⟨sl,z⟩:=y.slot b ob h1 h2 q;⟨sl,(o b (nb b ob q)).trans z⟩)⟩
def tTry (tb:(Addr→St→Hp→Prop)→TS) (ts:TS) (i:Nat) (ok:Addr→Prop):TS:=fun D σ H =>
  tb (fun C σ' H'=>ok C∧∀a,H' a=none→ts { D with nx:=fun σ2 H2=>D.nx (σ2.set i none) H2,bk:=fun σ2 H2=>D.bk (σ2.set i none) H2,ct:=fun σ2 H2=>D.ct (σ2.set i none) H2 } (σ'.set i (some (.ref a))) (upd H' a (ExcO a C))) D σ H
theorem zg3 {X:Cx} {body suite:List Stmt} {b₀:Stmt} {tb:(Addr→St→Hp→Prop)→TS} {ts:TS} {i:Nat} {n x:Str} {Re:Addr} {p1 p2 pos:Pos} (hst:X.stack=X.env::X.outer∧X.env.frame=some X.env.locals)
    (hN:X.N.Nodup) (hi:X.N[i]?=some n) (hk:X.env.scope.names.lookup n=some .local) (hg:Gl X x) (hm:X.mg x=some (.ref Re)) (hb:∀pins F,PSs (zdQ X pins F) body (tb F)) (hs:∀a,PSs (ycV X a) (b₀::suite) ts) (hdb:(x==("__debug__":Str))=false:=by decide) :
    PS X (.Try body [.ExceptHandler (some (.Name x p1)) (some n) (b₀::suite) p2] [] [] pos) (tTry tb ts i (fun C=>PySem.W.exmOne X.K (.ref C) (.ref Re)=some true)):=by
  intro pins s σ H D I h
  refine wpAny_Try_except (wpAny_mono (hb pins _ [] s σ H D I.toTry h) (fun fl s1 q=>?_) fun e s' q=>?_)
  · cases fl with
    | next=>obtain ⟨σ',H',I',q⟩:=q;exact wpAny_execs_nil ⟨σ',H',I'.ofTry,q⟩
    | brk=>obtain ⟨σ',H',I',q⟩:=q;exact ⟨σ',H',I'.ofTry,q⟩
    | cont=>obtain ⟨σ',H',I',q⟩:=q;exact ⟨σ',H',I'.ofTry,q⟩
    | ret u=>obtain ⟨v,σ',H',I',r,q⟩:=q;exact ⟨v,σ',H',I'.ofTry,r,q⟩
  · obtain ⟨σ1,H1,s1,I1,a,C,T,H',rfl,ho,hgn,u,hok,x,ha,hT,na,nT,C',hC',okC,q⟩:=q
    cases hC'
    have I2:=I1.call' (s':=s') (ch:=[]) ho u hok hgn (fun b z=>nomatch z)
    have hs2:=I2.stack
    have hF:=I2.stkFree
    have hfr:=I1.ok.frames
    rw [hst.1] at hs2 hF hfr u
    refine zep (base:=X.base) hfr hs2 hst.2 x fun h' y=>?_
    have inv:∀h'',zds (X.env::X.outer) a C (some T) s'.heap h''→∀tk,Inv X pins σ1 H' { s' with heap:=h'',toks:=tk }∧Inv X pins σ1 (upd H' a (ExcO a C)) { s' with heap:=h'',toks:=tk }:=fun h'' y tk=>by
      obtain ⟨u',hok'⟩:=y.un u hok na (fun T' z=>by cases z;exact nT) ha (fun T' z=>by cases z;exact hT) hF fun b o q hb=>hb
      rw [←hst.1] at u'
      obtain ⟨T2,_,oe,vs,z1,z2,z3,z4,_⟩:=y.exc
      exact ⟨I1.call' (s':={ s' with heap:=h'',toks:=tk }) (ch:=[]) ho u' hok' hgn (fun b z=>nomatch z),
        I1.call' (s':={ s' with heap:=h'',toks:=tk }) (ch:=[]) ho (u'.track na ha) (hok'.track ha ⟨⟨oe,vs,z1,z2,z3,z4⟩,⟨_,z1⟩,fun h1 h2 ⟨oe,vs,z1,z⟩ k=>⟨oe,vs,k _ z1,z⟩⟩) hgn (fun b z=>nomatch z)⟩
    obtain ⟨T2,hT2,x2⟩:=id y.exc
    have J:=(inv h' y s'.toks).1
    refine wpAny_handleBy_cons (codeAny_handlers_test (zct (X:=ycV X a) J.toSuite hg hm ?_ hdb)) (by intro q;cases q)
    obtain ⟨oe,vs,z1,z2,z3,z4,z5,z6,oT,tsv,z7,z8,z9⟩:=id x2
    refine (PySem.W.exm_one (M:=model X.prog X.w) (h:=h') J.kIn (z2 ▸ (PySem.W.Looks.ld z1).andThen .now) okC).at ?_
    simp only [if_true]
    refine codeAny_handlers_suite_as (wpAny_setFlight_none z1 z4 z5 z7 z8 (Array.getElem?_eq_some_iff.mp z9).1 ?_)
    have J2:=(inv _ (y.again hT2 x2) s'.toks).2
    refine zdy (X:=X) (v:=V.ref a) J2 hN hi (.inl hk) rfl (fun s3 J3 _=>?_) (.inr hk)
    refine wpAny_mono (hs a pins s3 _ _ _ J3.toSuite (q a ha)) (fun fl s4 r=>?_) fun _ _ z=>False.elim z
    have iok:=I.ok
    cases fl with
    | next=>obtain ⟨σ',H',I',q⟩:=r;exact ybS (I'.ofSuite iok) hN hi hk fun s5 I5=>⟨_,_,I5,q⟩
    | brk=>obtain ⟨σ',H',I',q⟩:=r;exact ybS (I'.ofSuite iok) hN hi hk fun s5 I5=>⟨_,_,I5,q⟩
    | cont=>obtain ⟨σ',H',I',q⟩:=r;exact ybS (I'.ofSuite iok) hN hi hk fun s5 I5=>⟨_,_,I5,q⟩
    | ret u=>obtain ⟨v,σ',H',I',r,q⟩:=r;exact ybS (I'.ofSuite iok) hN hi hk fun s5 I5=>⟨v,_,_,I5,r,q⟩
end L2
end
section
-- text: ExtRj
namespace L2
open PySem PySem.Spec PyProof.Rows PySem.W
def ye6 (e C:Addr) (h:Heap):Prop:=∃oe vs,h.get? e=some oe∧oe.cls = .ref C∧oe.dict=none∧oe.data = .fields vs
theorem ye6.inst {e C:Addr} {h:Heap} (x:ye6 e C h):∃oe,InstAt h e oe C none:=by
  obtain ⟨oe,vs,h1,h2,h3,h4⟩:=x
  exact ⟨oe,h1,h2,by unfold notCls;rw [h4],by rw [h3];trivial⟩
theorem za2 {K:Frag} {C:Addr} (q:zbH K C=true):(∃cd,clsIn K C=some cd)∧findIn K (.ref C) "__getattribute__"=some (some (.builtin "BaseException.__getattribute__"))∧findIn K (.ref C) "__getattr__"=some none∧findIn K (.ref C) "__class__"=some (some (.builtin "object.__class__"))∧
    mroIn K C (.type "object")=some true∧mroIn K C (.type "BaseException")=some true∧kitOne K (.ref C) (.type "ValueError")=some true∧specialIn K (.builtin "object.__class__") "__get__"=some (some (.builtin "getset_descriptor.__get__"))∧takesIn K (.builtin "object.__class__")=some true:=by
  unfold zbH at q
  simp only [Bool.and_eq_true,beq_iff_eq] at q
  obtain ⟨⟨⟨⟨_,h1⟩,⟨h2,h3⟩,h4⟩,⟨h5,h6⟩,h7⟩,h8,h9⟩:=q
  exact ⟨Option.isSome_iff_exists.mp h1,h2,h3,h4,h5,h6,h7,h8,h9⟩
section
variable {prog:Program} {w:World} {A:Around} {E:Value→Shared→Prop} {s:Shared} {K:Frag} {e C:Addr}
theorem yeP {M:Model} {nameV:Value} {Q:Unit→Shared→Prop} (q:zbH K C=true) (X:K.In s.heap) (x:ye6 e C s.heap) (hq:Q () s):wpAny M A (checkBuiltinCall "BaseException.__getattribute__" ⟨[.ref e,nameV],[]⟩) Q E s:=by
  have hk:builtinKind "BaseException.__getattribute__"=some .slot:=by decide +kernel
  have hsplit:splitId "BaseException.__getattribute__"=some ("BaseException","__getattribute__"):=by decide +kernel
  have ha:=F.args_bexc_ga (.ref e) nameV
  obtain ⟨oe,I⟩:=x.inst
  obtain ⟨_,_,_,_,_,hb,_⟩:=za2 q
  obtain ⟨hh,g,d,t,os⟩:=s
  have L0:=I.type (M:=M)
  have L1:=looks_mroIn (M:=M) X hb
  simp only [checkBuiltinCall,hk,hsplit]
  refine wpAny_bind ?_
  unfold isInstance
  refine wpAny_bind (L0.at (L1.at ?_))
  repeat (any_goals (first|assumption|wp_step))
theorem zeR {Q:Option Value→Shared→Prop} (q:zbH K C=true) (X:K.In s.heap) (x:ye6 e C s.heap) (h:Q (some (.ref C)) { s with toks:=s.toks+1 }):wpAny (model prog w) A (getAttr? (.ref e) "__class__") Q E s:=by
  obtain ⟨oe,I⟩:=x.inst
  obtain ⟨⟨cd,hcd⟩,hga,hgt,hcl,hob,_,_,hget,htk⟩:=za2 q
  have hf:findObj K C none "__class__"=some (.bind (.builtin "getset_descriptor.__get__") (.builtin "object.__class__")):=by
    unfold findObj
    rw [hcd,Option.bind_some,hcl,Option.bind_some]
    simp [hget,htk]
  obtain ⟨hh,g,d,t,os⟩:=s
  have L0:=I.type (M:=model prog w)
  have L1:=looks_findIn (M:=model prog w) X hga
  have L2:=looks_findIn (M:=model prog w) X hgt
  have L3:=looks_find (M:=model prog w) X I hf
  have f3:bindSpecial (.builtin "BaseException.__getattribute__") (.ref e)=pure (.builtin "BaseException.__getattribute__",[.ref e]):=F.excAttr_ValueError.ga.bind (.ref e)
  have hx2:(Value.builtin "BaseException.__getattribute__"==Value.builtin "object.__getattribute__")=false:=by decide +kernel
  have hx1:(onTheHeap (Value.ref C)&&Value.builtin "BaseException.__getattribute__"==Value.builtin "object.__getattribute__")=false:=by rw [hx2];rfl
  unfold getAttr? getAttrBy? getAttrBy
  refine wpAny_bind (wpAny_mkText (wpAny_bind (wpAny_attempt (wpAny_holding (wpAny_bind (L0.at (wpAny_bind (L1.at ?_))))))))
  dsimp only
  rw [if_neg (by rw [hx1];exact Bool.false_ne_true)]
  unfold getAttrByItsOwn hookBefore
  refine wpAny_bind (show wpAny _ _ (typeLookup (.ref C) "__getattr__") _ _ _ from L2.at ?_)
  refine wpAny_bind (wpAny_attempt (wpAny_holding ?_))
  show wpAny _ _ (boundAndCalled (.builtin "BaseException.__getattribute__") (.ref e) _) _ _ _
  unfold boundAndCalled
  rw [f3]
  refine wpAny_bind (wpAny_pure ?_)
  refine wpAny_call (codeAny_call_builtin F.excAttr_ValueError.ga.plain F.entry_bexc_ga (yeP q X x ?_))
  unfold Builtin.«object.__getattribute__»
  refine wpAny_bind (wpAny_of_eq (a:=(Value.ref e,[Value.str "__class__" t])) ⋯ ?_)
  refine wpAny_bind (wpAny_pure ?_)
  refine wpAny_bind (L0.at (wpAny_bind (L3.at ?_)))
  dsimp only
  show wpAny _ _ (holding [Value.builtin "object.__class__"] (call (.builtin "getset_descriptor.__get__") [Value.builtin "object.__class__",.ref e,.ref C]) >>= ret) _ _ _
  refine wpAny_bind (wpAny_holding (wpAny_call (class_get (s:=⟨hh,g,d,t+1,os⟩) (ox:=oe) (od:=none) X I hob ?_)))
  repeat (any_goals (first|exact h|assumption|wp_step))
theorem ycT (q:zbH K C=true):KitX K (.ref e) (.ref C) (ye6 e C) where
  ty:=fun _ _ _ x=>let ⟨_,I⟩:=x.inst;I.type
  it:=fun _ _ X _=>by
    obtain ⟨⟨cdD,hcD⟩,_⟩:=za2 q
    unfold clsIn at hcD
    split at hcD
    · rename_i c' d' cd' sl' ho
      intro A' Q' E' s' k q
      unfold isType loadHead
      exact wpAny_bind (wpAny_loadPart (k _ _ (X _ _ ho)) (wpAny_pure q))
    · cases hcD
  ne:=fun h tp dd its n sl X htp=>by
    obtain ⟨⟨cdD,hcD⟩,_⟩:=za2 q
    refine Bool.eq_false_iff.mpr fun q=>?_
    have e:C=tp:=Value.ref.inj (beq_iff_eq.mp q)
    subst e
    unfold clsIn at hcD
    split at hcD
    · rename_i c' d' cd' sl' ho
      have z:=(X _ _ ho).symm.trans htp
      cases z
    · cases hcD
  ca:=fun X x k=>zeR q X x k
end
inductive TyE (K:Frag) (H:Hp):V→Value→Prop where
  | exc {a C:Addr} (h:H a=some (ExcO a C)) (q:zbH K C=true):TyE K H (.ref a) (.ref C)
  | non:TyE K H .non (.type "NoneType")
inductive ClE (K:Frag) (H:Hp) (t:Value):V→Bool→Prop where
  | own {D:Addr} {b:Bool} (h:kitOne K t (.ref D)=some b):ClE K H t (.ref D) b
  | ty {T:String} {b:Bool} (h:kitOne K t (.type T)=some b):ClE K H t (.ty T) b
  | tup {tp:Addr} {ds:List Addr} {b:Bool} (h:H tp=some (.tup (ds.map V.ref))) (q:kitAny K t (ds.map Value.ref)=some b):ClE K H t (.ref tp) b
def rIsE (K:Frag):List V→Hp→VK→Prop:=fun xs H Q=>∃x c t b,xs=[x,c]∧TyE K H x t∧ClE K H t c b∧Q (.bl b) H
theorem ydy:∀ {ds:List Addr} {us:List Value},Vals (ds.map V.ref) us→us=ds.map Value.ref
  | [],_,.nil=>rfl
  | _::_,_,.cons r t=>by cases r;rw [ydy t];rfl
theorem zgI {X:Cx}:zbG X (.builtin "isinstance") (rIsE X.K):=by
  intro pins s σ H xs us Q I r h
  obtain ⟨x,c,t,b,rfl,hx,hc,q⟩:=h
  obtain ⟨u,v,rfl,r1,r2⟩:=ygI r
  have fin:∀tk,EP X pins σ Q (.bool b) { s with toks:=tk }:=fun tk=>⟨.bl b,H,I.tok tk,rfl,q⟩
  have tupOf:∀ {tp:Addr} {ds:List Addr},H tp=some (.tup (ds.map V.ref))→∃dd n sl,s.heap.get? tp=some ⟨.type "tuple",dd,.seq (ds.map Value.ref).toArray n,sl⟩:=fun {tp ds} h=>by
    obtain ⟨_,its,rv,p⟩:=(show zaW X.prog X.w H s.heap tp (.tup (ds.map V.ref)) from I.hok tp _ h)
    obtain rfl:=ydy rv
    obtain ⟨o,e1,e2,n,e3⟩:=p
    obtain ⟨oc,odi,oda,osl⟩:=o
    dsimp only at e2 e3
    subst e2;subst e3
    exact ⟨odi,n,osl,e1⟩
  cases hx with
  | @exc a C ha qa =>
    cases (show u=Value.ref a from r1)
    obtain ⟨px,_,_⟩:=(show zaW X.prog X.w H s.heap a (ExcO a C) from I.hok a _ ha)
    cases hc with
    | own z=>cases r2;exact kia_one (ycT qa) I.kIn px z (fun z=>nomatch z) fin
    | ty z=>cases r2;exact kia_one (ycT qa) I.kIn px z (fun z=>nomatch z) fin
    | tup h1 z =>
      cases r2
      obtain ⟨dd,n,sl,e⟩:=tupOf h1
      exact kia_tup (ycT qa) I.kIn px e z (fun z=>nomatch z) fin
  | non =>
    cases (show u=Value.none from r1)
    cases hc with
    | own z=>cases r2;exact kia_one kitx_none I.kIn True.intro z (fun z=>nomatch z) fin
    | ty z=>cases r2;exact kia_one kitx_none I.kIn True.intro z (fun z=>nomatch z) fin
    | tup h1 z =>
      cases r2
      obtain ⟨dd,n,sl,e⟩:=tupOf h1
      exact kia_tup kitx_none I.kIn True.intro e z (fun z=>nomatch z) fin
theorem zdf {X:Cx} {K:Frag} (h:X.K=K):zbG X (.builtin "isinstance") (rIsE K):=h ▸ zgI
end L2
namespace L2
open PySem PySem.Spec PyProof.Rows PySem.W
def ycH (K:Frag) (Re:Addr) (l:List Addr):Bool:=l.all (zbH K)&&(l.all (fun C=>exmOne K (.ref C) (.ref Re)==some true)&&(l.all (fun C=>l.all fun D=>kitOne K (.ref C) (.ref D)==some (C==D))&&decide l.Nodup))
theorem ybT (a:Addr):RelV (.ref a) (.ref a):=rfl
theorem zgq (T:String):RelV (.ty T) (.type T):=rfl
theorem ybV:bootBuiltins "ValueError"=some (.type "ValueError"):=by with_unfolding_all rfl
structure Errs (K:Frag) (mg:Str→Option Value) (Re By Nr Tm Nt Nl:Addr):Prop where
  mRe:mg "RoundError"=some (.ref Re)
  mBy:mg "ByNought"=some (.ref By)
  mNr:mg "NoRoot"=some (.ref Nr)
  mTm:mg "TooMany"=some (.ref Tm)
  mNt:mg "NoText"=some (.ref Nt)
  mNl:mg "NoLine"=some (.ref Nl)
  mV:mg "ValueError"=none
  ok:ycH K Re [By,Nr,Tm,Nt,Nl]=true
section
variable {K:Frag} {mg:Str→Option Value} {Re By Nr Tm Nt Nl:Addr}
theorem Errs.one (R:Errs K mg Re By Nr Tm Nt Nl) {C:Addr} (h:C∈[By,Nr,Tm,Nt,Nl]):zbH K C=true:=by
  have z:=R.ok;unfold ycH at z;simp only [Bool.and_eq_true,List.all_eq_true] at z;exact z.1 C h
theorem Errs.match_ (R:Errs K mg Re By Nr Tm Nt Nl) {C:Addr} (h:C∈[By,Nr,Tm,Nt,Nl]):exmOne K (.ref C) (.ref Re)=some true:=by
  have z:=R.ok;unfold ycH at z;simp only [Bool.and_eq_true,List.all_eq_true,beq_iff_eq] at z;exact z.2.1 C h
theorem Errs.kit (R:Errs K mg Re By Nr Tm Nt Nl) {C D:Addr} (h:C∈[By,Nr,Tm,Nt,Nl]) (h':D∈[By,Nr,Tm,Nt,Nl]):kitOne K (.ref C) (.ref D)=some (C==D):=by
  have z:=R.ok;unfold ycH at z;simp only [Bool.and_eq_true,List.all_eq_true,beq_iff_eq] at z;exact z.2.2.1 C h D h'
theorem Errs.nd (R:Errs K mg Re By Nr Tm Nt Nl):[By,Nr,Tm,Nt,Nl].Nodup:=by
  have z:=R.ok;unfold ycH at z;simp only [Bool.and_eq_true] at z;exact of_decide_eq_true z.2.2.2
theorem Errs.yes (R:Errs K mg Re By Nr Tm Nt Nl) {C:Addr} (h:C∈[By,Nr,Tm,Nt,Nl]):kitOne K (.ref C) (.ref C)=some true:=by rw [R.kit h h,beq_self_eq_true]
theorem Errs.no (R:Errs K mg Re By Nr Tm Nt Nl) {C D:Addr} (h:C∈[By,Nr,Tm,Nt,Nl]) (h':D∈[By,Nr,Tm,Nt,Nl]) (ne:C≠D):kitOne K (.ref C) (.ref D)=some false:=by rw [R.kit h h',beq_false_of_ne ne]
theorem Errs.any_no (R:Errs K mg Re By Nr Tm Nt Nl) {C:Addr} (h:C∈[By,Nr,Tm,Nt,Nl]):∀ {ds:List Addr},(∀D∈ds,D∈[By,Nr,Tm,Nt,Nl]∧C≠D)→kitAny K (.ref C) (ds.map Value.ref)=some false
  | [],_=>rfl
  | D::ds,hd=>by
    show kitAny K (.ref C) (Value.ref D::ds.map Value.ref)=some false
    unfold kitAny
    rw [R.no h (hd D (.head _)).1 (hd D (.head _)).2]
    exact R.any_no h fun E hE=>hd E (.tail _ hE)
theorem Errs.val (R:Errs K mg Re By Nr Tm Nt Nl) {C:Addr} (h:C∈[By,Nr,Tm,Nt,Nl]):kitOne K (.ref C) (.type "ValueError")=some true:=(za2 (R.one h)).2.2.2.2.2.2.1
end
end L2
namespace L2
open PySem PySem.Spec PyProof.Rows
section
variable {X:Cx}
end
end L2
namespace L2
open PySem PySem.Spec PyProof.Rows
theorem ycI {X:Cx} {st:Stmt} {t:TS} (h:PS X.nox st t):PS X st t:=fun pins s σ H D I hw =>
  wpAny_mono (h pins s σ H D (I.wish _) hw) (fun _ _ q=>q.unwish) fun _ _ z=>False.elim z
end L2
namespace L2
open PySem PySem.Spec PyProof.Rows
section
variable {X:Cx} {o e:Expr} {es:List Expr} {to:TE} {t:TA} {name:Str} {apos cpos:Pos} {T:String} {id:String} {r:V→List V→Hp→VK→Prop} {K:PySem.W.Frag}
end
end L2
end
section
-- text: ExtRk
namespace L2
open PySem PySem.Spec PyProof.Rows
section
variable {X:Cx}
end
end L2
namespace L2
open PySem PySem.Spec PyProof.Rows
section
variable {X:Cx}
end
end L2
end
section
-- text: ExtRl
namespace L2
open PySem PySem.Spec PyProof.Rows
section
variable {X:Cx}
end
end L2
namespace L2
open PySem PySem.Spec PyProof.Rows
section
variable {X:Cx}
end
end L2
namespace L2
open PySem PySem.Spec PyProof.Rows PySem.W
section
variable {K:Frag} {mg:Str→Option Value} {Re By Nr Tm:Addr}
end
end L2
end
section
-- text: ExtRm
namespace L2
open PySem PySem.Spec PyProof.Rows
section
variable {M:Model} {A:Around} {E:Value→Shared→Prop} {s:Shared}
end
section
variable {X:Cx}
end
end L2
namespace L2
open PySem PySem.Spec PyProof.Rows
end L2
end
section
-- text: ExtRn
namespace L2
open PySem PySem.Spec PyProof.Rows
section
variable {X:Cx}
end
end L2
end
section
-- text: ExtRo
namespace L2
open PySem PySem.Spec PyProof.Rows
theorem yd2 (elt t1 i1 t2 i2:Expr) (scope:Scope) (pos:Pos) (it acc:Value) (env:Env) :
    compTurn (.ListComp elt [⟨t1,i1,[],0⟩,⟨t2,i2,[],0⟩] scope pos) 0 it acc env=(standAt i1.pos >>= fun _=>pyNext it >>= fun r=>match r with
      | none=>pure (.done .next)
      | some v=>letOwnedTupleGo t1 it v >>= fun _=>assign t1 env v >>= fun _ =>
        (eval i2 env >>= fun x=>standAt i2.pos >>= fun _=>foldedSetIterable i2 env x >>= fun x=>holding [x] (pyIter x) >>= fun it2 =>
          runOwn (.compStart (.ListComp elt [⟨t1,i1,[],0⟩,⟨t2,i2,[],0⟩] scope pos) 1 it2 acc env) env >>= fun _ =>
          again (.compLoop (.ListComp elt [⟨t1,i1,[],0⟩,⟨t2,i2,[],0⟩] scope pos) 0 it acc env))):=by rfl
theorem yd4 (elt t1 i1 t2 i2:Expr) (scope:Scope) (pos:Pos) (it acc:Value) (env:Env) :
    compTurn (.ListComp elt [⟨t1,i1,[],0⟩,⟨t2,i2,[],0⟩] scope pos) 1 it acc env=(standAt i2.pos >>= fun _=>pyNext it >>= fun r=>match r with
      | none=>pure (.done .next)
      | some v=>letOwnedTupleGo t2 it v >>= fun _=>assign t2 env v >>= fun _ =>
        (eval elt env >>= fun x=>call (.builtin "list.append") [acc,x] >>= fun _=>pure ()) >>= fun _ =>
          again (.compLoop (.ListComp elt [⟨t1,i1,[],0⟩,⟨t2,i2,[],0⟩] scope pos) 1 it acc env)):=by rfl
section
variable {prog:Program} {w:World} {A:Around} {R:Result→Shared→Prop} {s:Shared}
theorem ybI {elt t1 i1 t2 i2 scope pos it acc env}
    (h0:codeAny (model prog w) A (.compLoop (.ListComp elt [⟨t1,i1,[],0⟩,⟨t2,i2,[],0⟩] scope pos) 1 it acc env) R s)
    (h:wpAny (model prog w) A (pyIter it) (fun it' s'=>codeAny (model prog w) A (.compLoop (.ListComp elt [⟨t1,i1,[],0⟩,⟨t2,i2,[],0⟩] scope pos) 1 it' acc env) R s')
      (notedBy (model prog w) A env fun x s'=>R (.error x) s') s) :
    codeAny (model prog w) A (.compStart (.ListComp elt [⟨t1,i1,[],0⟩,⟨t2,i2,[],0⟩] scope pos) 1 it acc env) R s:=by
  refine codeAny_of_tree ?_
  show wpAny _ _ ((compStart (.ListComp elt [⟨t1,i1,[],0⟩,⟨t2,i2,[],0⟩] scope pos) 1 it acc env).onRaise (fun x=>do noteFrame x env;standAt theWindowsPlace)) _ _ s
  refine wpAny_notedAt ?_
  unfold compStart
  show wpAny _ _ (ask >>= _) _ _ s
  refine wpAny_bind (wpAny_askSetting (wpAny_ite ?_))
  split
  · first
      | exact wpAny_bind (wpAny_pure (wpAny_pure (And.intro rfl h0)))
      | exact wpAny_pure (And.intro rfl h0)
  · first
      | exact wpAny_bind (wpAny_rule (wpAny_bind (wpAny_standAt (wpAny_bind (wpAny_mono h (fun it' s' h'=>wpAny_pure (And.intro rfl h')) fun _ _ x=>x)))))
      | (refine wpAny_bind (wpAny_rule ?_);show wpAny _ _ (standAt i2.pos >>= _) _ _ s;exact wpAny_bind (wpAny_standAt (wpAny_bind (wpAny_mono h (fun it' s' h'=>wpAny_pure (And.intro rfl h')) fun _ _ x=>x))))
theorem ydT {elt t1 i1 t2 i2:Expr} {scope:Scope} {pos:Pos} {it acc:Value} {env:Env} (I:Nat→Shared→Prop)
    (turn:∀n s,I n s→wpAny (model prog w) A (pyNext it) (fun r s₁=>match r with
      | none=>R (.ok .next) s₁
      | some v=>wpAny (model prog w) A (letOwnedTupleGo t2 it v) (fun _ s₁'=>wpAny (model prog w) A (assign t2 env v) (fun _ s₂ =>
          wpAny (model prog w) A (eval elt env) (fun x s₄ =>
            wpAny (model prog w) A (call (.builtin "list.append") [acc,x]) (fun _ s₅=>∃m,m<n∧I m s₅) (fun _ _=>False) s₄) (fun _ _=>False) s₂) (fun _ _=>False) s₁') (fun _ _=>False) s₁) (fun _ _=>False) s)
    (n:Nat) (h:I n s):codeAny (model prog w) A (.compLoop (.ListComp elt [⟨t1,i1,[],0⟩,⟨t2,i2,[],0⟩] scope pos) 1 it acc env) R s:=by
  refine codeAny_loop rfl I (fun n s hI=>?_) n h
  show wpAny _ A ((compTurn (.ListComp elt [⟨t1,i1,[],0⟩,⟨t2,i2,[],0⟩] scope pos) 1 it acc env).onRaise (fun x=>do noteFrame x env;theTreesLotGoes x)) _ _ s
  refine wpAny_noted (wpAny_noRaise ?_)
  rw [yd4]
  refine wpAny_bind (wpAny_standAt (wpAny_bind (wpAny_mono (turn n s hI) (fun r s₁ h₁=>?_) fun _ _ h'=>h')))
  cases r with
  | none=>exact wpAny_pure h₁
  | some v =>
    refine wpAny_bind (wpAny_mono h₁ (fun _ s₁' h₁'=>?_) fun _ _ h'=>h')
    refine wpAny_bind (wpAny_mono h₁' (fun _ s₂ h₂=>?_) fun _ _ h'=>h')
    exact wpAny_bind (wpAny_bind (wpAny_mono h₂ (fun x s₄ h₄=>wpAny_bind (wpAny_mono h₄ (fun _ s₅ h₅=>wpAny_pure (wpAny_pure ⟨rfl,h₅⟩)) fun _ _ h'=>h')) fun _ _ h'=>h'))
theorem zdK {elt t1 i1 t2 i2:Expr} {scope:Scope} {pos:Pos} {it acc:Value} {env:Env} (I:Nat→Shared→Prop)
    (turn:∀n s,I n s→wpAny (model prog w) A (pyNext it) (fun r s₁=>match r with
      | none=>R (.ok .next) s₁
      | some v=>wpAny (model prog w) A (letOwnedTupleGo t1 it v) (fun _ s₁'=>wpAny (model prog w) A (assign t1 env v) (fun _ s₂ =>
          wpAny (model prog w) A (eval i2 env) (fun x s₃=>wpAny (model prog w) A (pyIter x) (fun it2 s₄ =>
            codeAny (model prog w) A (.compStart (.ListComp elt [⟨t1,i1,[],0⟩,⟨t2,i2,[],0⟩] scope pos) 1 it2 acc env) (fun r s₅=>r = .ok .next∧∃m,m<n∧I m s₅) s₄) (fun _ _=>False) s₃) (fun _ _=>False) s₂) (fun _ _=>False) s₁') (fun _ _=>False) s₁) (fun _ _=>False) s)
    (n:Nat) (h:I n s) (hs:∀x,foldedSetIterable i2 env x=pure x):codeAny (model prog w) A (.compLoop (.ListComp elt [⟨t1,i1,[],0⟩,⟨t2,i2,[],0⟩] scope pos) 0 it acc env) R s:=by
  refine codeAny_loop rfl I (fun n s hI=>?_) n h
  show wpAny _ A ((compTurn (.ListComp elt [⟨t1,i1,[],0⟩,⟨t2,i2,[],0⟩] scope pos) 0 it acc env).onRaise (fun x=>do noteFrame x env;theTreesLotGoes x)) _ _ s
  refine wpAny_noted (wpAny_noRaise ?_)
  rw [yd2]
  refine wpAny_bind (wpAny_standAt (wpAny_bind (wpAny_mono (turn n s hI) (fun r s₁ h₁=>?_) fun _ _ h'=>h')))
  cases r with
  | none=>exact wpAny_pure h₁
  | some v =>
    refine wpAny_bind (wpAny_mono h₁ (fun _ s₁' h₁'=>?_) fun _ _ h'=>h')
    refine wpAny_bind (wpAny_mono h₁' (fun _ s₂ h₂=>?_) fun _ _ h'=>h')
    refine wpAny_bind (wpAny_mono h₂ (fun x s₃ h₃=>?_) fun _ _ h'=>h')
    refine wpAny_bind (wpAny_standAt (wpAny_bind (wpAny_of_eq (hs x) (wpAny_bind (wpAny_holding (wpAny_mono h₃ (fun it2 s₄ h₄=>?_) fun _ _ h'=>h'))))))
    refine wpAny_bind (wpAny_runOwn (codeAny_mono h₄ fun r s₅ h₅=>?_))
    obtain ⟨rfl,h₅⟩:=h₅
    exact wpAny_pure ⟨rfl,h₅⟩
end
def tIn (wi2:TI) (g2:TG) (te:TE) (acc:List V) (N:List V→Hp→Prop):St→Hp→Prop:=fun σ H=>wi2 σ H fun J H1=>∃W:Nat→Nat→St→List V→Hp→Prop,(∃m,W 0 m σ acc H1)∧∀i m σ acc H,W i m σ acc H→
  (J.stop i H∧N acc H)∨
  (J.go i H∧acc.length<sizeLine∧∃N2:St→List V→Hp→Prop,(∀σ' acc' H',N2 σ' acc' H'→∃m',m'<m∧W (i+1) m' σ' acc' H')∧∀x H',J.yld i H x H'→g2 x σ H' fun σ2 H2=>te σ2 H2 fun v H3=>N2 σ2 (acc++[v]) H3)
def yf7 (wi:TI) (k:Nat) (ci:List Nat) (g:TG) (wi2:TI) (g2:TG) (te:TE):TE:=fun σ H Q=>wi σ H fun J H1=>∃W:yfZ,(∃m,W 0 m [] H1)∧∀i m acc H,W i m acc H→
  (J.stop i H∧∀D,H D=none→Q (.ref D) (upd H D (.lst acc)))∨
  (J.go i H∧∃N:List V→Hp→Prop,(∀acc' H',N acc' H'→∃m',m'<m∧W (i+1) m' acc' H')∧∀x H',J.yld i H x H'→g x (capσ k ci σ) H' fun σ2 H2=>tIn wi2 g2 te acc N σ2 H2)
section
variable {X:Cx}
theorem zg5 {elt t1 i1 t2 i2:Expr} {scope:Scope} {pos:Pos} {wi2:TI} {g2:TG} {te:TE} {pins:List (Addr×Obj)} {s:Shared} {σ:St} {H:Hp} {D:Addr} {vs:List V} {us:List Value} {k:Nat} {N:List V→Hp→Prop}
    (hxe:X.xe=fun _ _=>False) (hcalm:X.calm=true) (hi:PI X t2 i2 wi2) (hg:PG X t2 g2) (he:PE X elt te)
    (hDC:D≠X.env.locals) (hDfs:D∉X.fs) (hDcell:∀x c,X.env.cells.lookup x=some c→c≠D) (hDge:X.s₀.heap.objs.size≤D) (hDp:∀p∈X.pn++pins,p.1≠D)
    (I:Inv X pins σ H s) (fD:H D=none) (eD:s.heap.get? D=some { cls:=.type "list",data:=.seq us.toArray k }) (rv:Vals vs us) (z:vs.length≤sizeLine) (h:tIn wi2 g2 te vs N σ H) :
    wpAny (model X.prog X.w) X.A (eval i2 X.env) (fun v s1=>wpAny (model X.prog X.w) X.A (pyIter v) (fun itv s2 =>
      codeAny (model X.prog X.w) X.A (.compStart (.ListComp elt [⟨t1,i1,[],0⟩,⟨t2,i2,[],0⟩] scope pos) 1 itv (.ref D) X.env)
        (fun r s'=>r = .ok .next∧∃σ' vs' us' k' H',Inv X pins σ' H' s'∧H' D=none∧s'.heap.get? D=some { cls:=.type "list",data:=.seq us'.toArray k' }∧Vals vs' us'∧vs'.length≤sizeLine∧N vs' H') s2) (fun _ _=>False) s1) (fun _ _=>False) s:=by
  let pD:List Value→Nat→List (Addr×Obj):=fun us k=>[(D,{ cls:=.type "list",data:=.seq us.toArray k })]
  have memD:∀ {us k},(D,({ cls:=.type "list",data:=.seq us.toArray k }:Obj))∈X.pn++(pins++pD us k):=fun {us k}=>List.mem_append_right _ (List.mem_append_right _ List.mem_cons_self)
  have pinD:∀ {σ':St} {H':Hp} {s':Shared} {us:List Value} {k:Nat},Inv X pins σ' H' s'→H' D=none→s'.heap.get? D=some { cls:=.type "list",data:=.seq us.toArray k }→Inv X (pins++pD us k) σ' H' s':=fun {σ' H' s' us k} J f e =>
    J.pins_of fun p hp=>(List.mem_append.mp hp).elim (fun z=>J.pin p (List.mem_append_right _ z)) fun z=>by
      have:p=(D,{ cls:=.type "list",data:=.seq us.toArray k }):=by simpa [pD] using z
      subst this
      exact ⟨e,f,hDC,hDfs,fun v z=>by cases z⟩
  have hi2:=hi (pins++pD us k) s σ H _ (pinD I fD eD) h
  rw [hxe] at hi2
  refine thn hi2 fun v s1 h1=>thn h1 fun itv s2 h2=>?_
  obtain ⟨it,fp,tn,J,H2,e,I2,T,st2,f2,W,⟨m0,w0⟩,turn⟩:=h2
  subst e
  have hDfp:∀b∈fp,b≠D:=fun b hb zz=>(f2 b hb).2.2.2.2.2 _ memD zz.symm
  have stat:∀ {H':Hp} {us:List Value} {k:Nat},(∀b∈fp,H' b=none)→∀b∈fp,FpOk X (pins++pD us k) H' b:=fun {H' us k} hn b hb=>by
    obtain ⟨_,a2,a3,a4,a5,a6⟩:=f2 b hb
    refine ⟨hn b hb,a2,a3,a4,a5,fun p hp=>?_⟩
    rcases List.mem_append.mp hp with zz|zz
    · exact a6 p (List.mem_append_left _ zz)
    · rcases List.mem_append.mp zz with zz|zz
      · exact a6 p (List.mem_append_right _ (List.mem_append_left _ zz))
      · have:p=(D,{ cls:=.type "list",data:=.seq us.toArray k }):=by simpa [pD] using zz
        subst this
        exact fun q=>hDfp b hb q.symm
  have loop:codeAny (model X.prog X.w) X.A (.compLoop (.ListComp elt [⟨t1,i1,[],0⟩,⟨t2,i2,[],0⟩] scope pos) 1 (.ref it) (.ref D) X.env)
      (fun r s'=>r = .ok .next∧∃σ' vs' us' k' H',Inv X pins σ' H' s'∧H' D=none∧s'.heap.get? D=some { cls:=.type "list",data:=.seq us'.toArray k' }∧Vals vs' us'∧vs'.length≤sizeLine∧N vs' H') s2:=by
    refine ydT (fun n s'=>∃i σ' vs us k H',Inv X pins σ' H' s'∧tn i s'.heap∧(∀b∈fp,H' b=none)∧H' D=none∧s'.heap.get? D=some { cls:=.type "list",data:=.seq us.toArray k }∧Vals vs us∧vs.length≤sizeLine∧W i n σ' vs H') ?_ m0
      ⟨0,σ,vs,us,k,H2,I2.unpinned,st2,fun b hb=>(f2 b hb).1,(I2.pin _ memD).2.1,(I2.pin _ memD).1,rv,z,w0⟩
    rintro n s3 ⟨i,σ3,vs3,us3,k3,H3,I3,st3,fr3,fD3,e3,rv3,z3,w3⟩
    rcases turn i n σ3 vs3 H3 w3 with ⟨stop,qn⟩ | ⟨go,zl,N2,hN,step⟩
    · refine thn (T.done X rfl rfl rfl hcalm i (pins++pD us3 k3) s3 σ3 H3 _ (pinD I3 fD3 e3) (stat fr3) st3 stop) fun r s4 ⟨hr,I4⟩=>?_
      subst hr
      exact ⟨rfl,σ3,vs3,us3,k3,H3,I4.unpinned,fD3,(I4.pin _ memD).1,rv3,z3,qn⟩
    · refine thn (T.item X rfl rfl rfl hcalm i (pins++pD us3 k3) s3 σ3 H3 _ (pinD I3 fD3 e3) (stat fr3) st3 go) fun r s4 ⟨u,hr,h4⟩=>?_
      subst hr
      refine thn h4 fun _ s5 ⟨x,H5,I5,r5,y5,st5,fr5⟩=>?_
      have I5':=I5.pinned (stat fr5) (T.obj _ _ st5)
      have hgg:=hg _ s5 σ3 H5 x u _ I5' r5 (step x H5 y5)
      rw [hxe] at hgg
      refine thn hgg fun _ s6 ⟨σ6,H6,I6,q6⟩=>?_
      have hee:=he _ s6 σ6 H6 _ I6 q6
      rw [hxe] at hee
      refine thn hee fun y s8 ⟨yv,H8,I8,r8,q8⟩=>?_
      obtain ⟨m',hm,w8⟩:=hN _ _ _ q8
      have e8:=I8.unpinned.pin _ memD
      have pb:∀b∈fp,∀o,s5.heap.get? b=some o→s8.heap.get? b=some o∧H8 b=none:=fun b hb o e=>by
        have:=I8.pin (b,o) (List.mem_append_right _ (List.mem_append_right _ (za8 hb e)))
        exact ⟨this.1,this.2.1⟩
      refine call_meets F.slot_list_append ⟨_,e8.1,rfl⟩ F.entry_list_append (F.args_list_append_2 _ _) (PySem.list_append D us3.toArray k3 y (by rw [List.size_toArray,←rv3.length];exact z3)) ⟨e8.1,?_⟩
      have q:=PySem.IsL.update e8.1 (·.push y)
      have J0:Inv X pins σ6 H8 s8:=I8.unpinned.unpinned
      refine ⟨m',hm,i+1,σ6,vs3++[yv],us3++[y],_,H8,J0.turned (it:=D) (t':=s8.toks) (fun b o hb hu=>(Heap.get?_update_other s8.heap _ (Ne.symm hb)).trans hu) e8.2.1 hDC (.inr hDge) hDcell hDp,?_,?_,e8.2.1,by simpa using q,rv3.append (.cons r8 .nil),by simp;omega,w8⟩
      · exact T.keep _ _ _ st5 fun b hb o e=>(Heap.get?_update_other s8.heap _ (fun zz=>hDfp b hb zz.symm)).trans (pb b hb o e).1
      · intro b hb
        obtain ⟨o,e,_⟩:=T.obj _ _ st5 b hb
        exact (pb b hb o e).2
  exact ybI loop (T.self X.A 0 _ _ _ st2 loop)
theorem ze9 {elt target iter t2 i2:Expr} {scope:Scope} {pos:Pos} {tg cp:List Str} {ci:List Nat} {wi wi2:TI} {g g2:TG} {te:TE}
    {pins:List (Addr×Obj)} {s:Shared} {σ:St} {H:Hp} {Q:VK} {cl:List (Str×Addr)}
    (S:CSc X.N X.env.scope tg cp ci scope) (hcalm:X.calm=true) (hi:PI X target iter wi)
    (hcl1:∀n c,cl.lookup n=some c→X.env.cells.lookup n=some c) (hcl2:∀n,(n,NameKind.free)∈scope.names→∃c,cl.lookup n=some c)
    (hg:∀C fp s H,PG (cxC X (tg++cp) scope cl C fp s H) target g) (hi2:∀C fp s H,PI (cxC X (tg++cp) scope cl C fp s H) t2 i2 wi2) (hg2:∀C fp s H,PG (cxC X (tg++cp) scope cl C fp s H) t2 g2) (he:∀C fp s H,PE (cxC X (tg++cp) scope cl C fp s H) elt te)
    (hs2:∀env x,foldedSetIterable i2 env x=pure x) (I:Inv X pins σ H s) (h:yf7 wi tg.length ci g wi2 g2 te σ H Q) :
    wpAny (model X.prog X.w) X.A (eval iter X.env) (fun x s₁=>wpAny (model X.prog X.w) X.A (pyIter x) (fun it s₂=>wpAny (model X.prog X.w) X.A (newList []) (fun acc s₃ =>
      wpAny (model X.prog X.w) X.A (newFunctionEnv scope X.env.globals cl [] X.env.qual none .none (some X.env)) (fun cenv s₄ =>
        codeAny (model X.prog X.w) X.A (.compStart (.ListComp elt [⟨target,iter,[],0⟩,⟨t2,i2,[],0⟩] scope pos) 0 it acc { cenv with scope:=relabel scope X.env })
          (fun r s'=>∃D vs H',acc = .ref D∧r = .ok .next∧Inv X pins σ (upd H' D (.lst vs)) s'∧H' D=none∧Gone X pins (upd H' D (.lst vs)) s' cenv.locals∧∀D',H' D'=none→Q (.ref D') (upd H' D' (.lst vs))) s₄) X.xe s₃) X.xe s₂) X.xe s₁) X.xe s:=by
  refine thn (hi pins s σ H _ I h) fun v s1 h1=>thn h1 fun itv s2 h2=>?_
  obtain ⟨it,fp,tn,J,H2,e,I2,T,st2,f2,W,⟨m0,w0⟩,turn⟩:=h2
  subst e
  refine wpAny_newObj_type (wpAny_newFunctionEnv S.nocell (by intro y hy;simp at hy) (fun h₁ hns₁ hsb₁=>?_) S.kind)
  dsimp only at hns₁ hsb₁ ⊢
  generalize hHL:s2.heap.push { cls:=.type "list",dict:=none,data:=.seq ([]:List Value).toArray }=HL at hns₁ hsb₁ ⊢
  have hC:HL.objs.size=s2.heap.objs.size+1:=by rw [←hHL,Heap.size_push]
  generalize hD:s2.heap.objs.size=D at hC ⊢
  generalize hCC:HL.objs.size=C at hns₁ hsb₁ hC ⊢
  have hDC:D≠C:=by omega
  have old:∀b o,s2.heap.get? b=some o→h₁.get? b=some o:=fun b o e=>by
    have lt:s2.heap.objs.size≥Nat.succ b:=Heap.lt_size e
    refine hsb₁.extBut b o (show @Ne Nat b C by omega) (Heap.get?_push_of_some _ (hHL ▸ Heap.get?_push_of_some _ e))
  have hD1:h₁.get? D=some { cls:=.type "list",data:=.seq ([]:List Value).toArray 0 }:=by
    refine hsb₁.extBut D _ hDC (Heap.get?_push_of_some _ ?_)
    rw [←hHL,←hD]
    exact Heap.get?_push_size _ rfl
  have fD:H2 D=none:=I2.hok.fresh (by omega)
  have fC:H2 C=none:=I2.hok.fresh (by omega)
  let X':Cx:=cxC X (tg++cp) scope cl C fp s2 H2
  have ok':X'.Ok:=by
    refine ⟨I2.ok.mod,?_,I2.ok.glob,I2.ok.blt,?_,?_,?_,?_,I2.ok.hd,I2.ok.frames,.inl rfl,?_,I2.bs,Nat.le_trans I2.ok.bsz I2.sz,?_,?_,I2.stack,I2.stkFree⟩
    · exact S.kind
    · show s2.heap.objs.size≤C;omega
    · intro x y c hx hy;exact I2.ok.inj x y c (hcl1 x c hx) (hcl1 y c hy)
    · intro x hx
      have hx':(relabel scope X.env).names.lookup x=some .cell∨(relabel scope X.env).names.lookup x=some .free:=hx
      have q:scope.names.lookup x=some .free∨scope.names.lookup x=some .cell:=by
        rcases hx' with z|z
        · exact yaL z (.inl rfl)
        · exact yaL z (.inr rfl)
      rcases q with q|q
      · exact hcl2 x (yaR q)
      · exact absurd rfl (S.nocell _ (yaR q))
    · intro x c hx;cases hx
    · intro b hb
      obtain ⟨o,eo,_⟩:=T.obj _ _ st2 b hb
      have lt:s2.heap.objs.size≥Nat.succ b:=Heap.lt_size eo
      exact ⟨by show @Ne Nat b C;omega,fun x c hx=>(f2 b hb).2.2.2.2.1 x c (hcl1 x c hx)⟩
    · intro b o e hb
      rcases (f2 b hb).2.2.2.1 with z|z
      · exact I2.ok.noex b o e z
      · have l1:X.base.objs.size≥Nat.succ b:=Heap.lt_size e
        have l2:X.base.objs.size≤X.s₀.heap.objs.size:=I2.ok.bsz
        have l3:X.s₀.heap.objs.size≤(b:Nat):=z
        omega
    · intro b hb hbs
      rcases List.mem_cons.mp (I2.stkSub b hbs) with z|z
      · exact (f2 b hb).2.1 z
      · exact (f2 b hb).2.2.1 z
  have capLen:(capσ tg.length ci σ).length=X'.N.length:=by
    show (List.replicate tg.length none++ci.map fun i=>(σ[i]?).join).length=(tg++cp).length
    have:=congrArg List.length S.at_
    simp only [List.length_map] at this
    simp [this]
  have capLook:∀(h':Heap) (m':Str→Option Value),(∀x c o,X.env.cells.lookup x=some c→s2.heap.get? c=some o→∃sl,h'.get? c=some { o with slots:=sl })→
      ∀(i:Nat) (x:Str) (v:V),X'.N[i]?=some x→(capσ tg.length ci σ)[i]?=some (some v)→Vis X'.env.scope x→∃u,RelV v u∧Look X'.env h' m' x u:=by
    intro h' m' hcell i x v e1 e2 e3
    have e1':(tg++cp)[i]?=some x:=e1
    have e2':(List.replicate tg.length none++ci.map fun i=>(σ[i]?).join)[i]?=some (some v):=e2
    by_cases hi':i<tg.length
    · rw [List.getElem?_append_left (by simpa using hi'),List.getElem?_replicate] at e2'
      split at e2' <;> cases e2'
    · rw [List.getElem?_append_right (by simpa using hi'),List.length_replicate,List.getElem?_map] at e2'
      rw [List.getElem?_append_right (by omega)] at e1'
      cases hj:ci[i-tg.length]? with
      | none=>rw [hj] at e2';cases e2'
      | some j =>
        rw [hj] at e2'
        have e2'':(σ[j]?).join=some v:=Option.some.inj e2'
        have e4:σ[j]?=some (some v):=by
          cases q:σ[j]? with
          | none=>rw [q] at e2'';cases e2''
          | some z=>rw [q] at e2'';exact congrArg some e2''
        have e5:X.N[j]?=some x:=by
          have:=congrArg (·[i-tg.length]?) S.at_
          simp only [List.getElem?_map,hj,e1',Option.map_some] at this
          exact Option.some.inj this
        have hx:scope.names.lookup x=some .free:=S.cap x (List.mem_of_getElem? e1')
        have hk:=S.free (x,.free) (yaR hx) rfl
        obtain ⟨m,hn,hl⟩:=I2.loc
        obtain ⟨u,r,l⟩:=hl j x v e5 e4 (.inr hk)
        refine ⟨u,r,.inr ⟨?_,?_⟩⟩
        · exact zbA hx
        · rcases l with ⟨k1,_⟩ | ⟨_,c,k2,k3⟩
          · have k1':X.env.scope.names.lookup x=some .local:=k1
            rcases hk with z|z <;> (rw [z] at k1';cases k1')
          · obtain ⟨c',hc'⟩:=hcl2 x (yaR hx)
            have:=hcl1 x c' hc'
            rw [k2] at this;cases this
            obtain ⟨o,ho,hd⟩:=k3
            obtain ⟨sl,q⟩:=hcell x c o k2 ho
            exact ⟨c,hc',_,q,hd⟩
  have I':∀tk,Inv X' [] (capσ tg.length ci σ) H2 { s2 with heap:=h₁,toks:=tk }:=fun tk=>by
    refine ⟨ok',rfl,I2.bare,Un.kept old,⟨_,hns₁,capLook _ _ fun x c o _ e=>⟨o.slots,old c o e⟩⟩,fun x c hx=>?_,fC,fun x c hx=>I2.freeC x c (hcl1 x c hx),fun p hp=>absurd (show p∈([]:List (Addr×Obj)) from hp) (by simp),I2.hok.kept old,?_⟩
    · obtain ⟨v,o,ho,hd⟩:=I2.cell x c (hcl1 x c hx)
      exact ⟨v,o,old c o ho,hd⟩
    · exact capLen
  have recap:∀ {pl pl':List (Addr×Obj)} {σ':St} {H':Hp} {s':Shared},Inv X' (pl++pl') σ' H' s'→Inv X' pl (capσ tg.length ci σ) H' s':=fun {pl pl' σ' H' s'} J=>by
    obtain ⟨m,hn,_⟩:=J.loc
    have u:Un (frs X.stack) fp H2 H' s2.heap s'.heap:=J.base
    exact ⟨J.ok,J.os,J.bare,J.base,⟨m,hn,capLook _ _ fun x c o hx e=>u.any e (I2.freeC x c hx) fun hb=>(f2 c hb).2.2.2.2.1 x c hx rfl⟩,J.cell,J.free,J.freeC,
      fun p hp=>(List.mem_append.mp hp).elim (fun z=>J.pin p (List.mem_append_left _ z)) (fun z=>J.pin p (List.mem_append_right _ (List.mem_append_left _ z))),J.hok,capLen⟩
  have stat:∀ {H':Hp},(∀b∈fp,H' b=none)→∀b∈fp,FpOk X' [] H' b:=fun hn b hb=>by
    obtain ⟨o,eo,_⟩:=T.obj _ _ st2 b hb
    have lt:s2.heap.objs.size≥Nat.succ b:=Heap.lt_size eo
    exact ⟨hn b hb,by show @Ne Nat b C;omega,ok'.exfs b hb,.inl hb,(ok'.exf b hb).2,fun p hp=>absurd (show p∈([]:List (Addr×Obj)) from hp) (by simp)⟩
  have hDfp:D∉fp:=fun hb=>by obtain ⟨o,eo,_⟩:=T.obj _ _ st2 D hb;have lt:s2.heap.objs.size≥Nat.succ D:=Heap.lt_size eo;omega
  have hDcell:∀x c,X'.env.cells.lookup x=some c→c≠D:=fun x c hx=>by
    obtain ⟨v,o,ho,hd⟩:=I2.cell x c (hcl1 x c hx)
    have lt:s2.heap.objs.size≥Nat.succ c:=Heap.lt_size ho
    intro z;have z':@Eq Nat c D:=z;omega
  have hDfs:D∉X'.fs:=fun hb=>by
    have:D∈X.env.locals::X.fs:=I2.stkSub D hb
    rcases List.mem_cons.mp this with z|z
    · have l1:s2.heap.objs.size≥Nat.succ X.env.locals:=I2.lt
      have z':@Eq Nat D X.env.locals:=z
      omega
    · exact I2.nofs (show s2.heap.objs.size≤D by omega) z
  have fin:∀ {pl:List (Addr×Obj)} {σ':St} {H':Hp} {s':Shared} {vs:List V} {us:List Value} {k:Nat},Inv X' pl σ' H' s'→H' D=none→s'.heap.get? D=some { cls:=.type "list",data:=.seq us.toArray k }→Vals vs us→vs.length≤sizeLine→
      (∀D',H' D'=none→Q (.ref D') (upd H' D' (.lst vs)))→
      ∃D' vs H',Value.ref D = .ref D'∧(Except.ok Flow.next:Result) = .ok .next∧Inv X pins σ (upd H' D' (.lst vs)) s'∧H' D'=none∧Gone X pins (upd H' D' (.lst vs)) s' C∧∀D',H' D'=none→Q (.ref D') (upd H' D' (.lst vs)):=by
    intro pl σ' H' s' vs us k J f e r z q
    have u:Un (frs X.stack) fp H2 H' s2.heap s'.heap:=J.base
    have lt:∀ {b:Addr} {o:Obj},s2.heap.get? b=some o→b≠D:=fun {b o} eb zb=>by
      have l1:s2.heap.objs.size≥Nat.succ b:=Heap.lt_size eb
      have l2:@Eq Nat b D:=zb
      omega
    have u2:Un (frs X.stack) fp H2 (upd H' D (.lst vs)) s2.heap s'.heap :=
      ⟨u.keep,u.slot,fun b o eb n hx=>by rw [zag (lt eb)];exact u.free b o eb n hx,u.there,
       fun b xs eb=>by rw [zag (yae eb fD)];exact u.tups b xs eb,fun b o uu eb=>by rw [zag (yae eb fD)];exact u.frzs b o uu eb,fun b ps eb=>by rw [zag (yae eb fD)];exact u.tbls b ps eb⟩
    have hok2:HOk X.prog X.w (upd H' D (.lst vs)) s'.heap:=fun b o eb=>by
      by_cases hb:b=D
      · subst hb
        rw [zab] at eb;cases eb
        exact ⟨z,us,k,r,e⟩
      · rw [zag hb] at eb
        refine (J.hok b o eb).stay (fun _ _ _ q=>q) (fun c hc=>?_) fun c xs hc=>?_
        · rw [zag (fun zz=>by rw [zz,f] at hc;cases hc)];exact hc
        · rw [zag (fun zz=>by rw [zz,f] at hc;cases hc)];exact hc
    refine ⟨D,vs,H',rfl,rfl,I2.call' (ch:=fp) J.os u2 hok2 J.bare ?_,f,⟨?_,?_,?_,?_,?_,?_,?_⟩,q⟩
    · intro b hb
      obtain ⟨_,a2,_,a4,a5,a6⟩:=f2 b hb
      exact ⟨a4,a2,a5,a6⟩
    · obtain ⟨m,hn,_⟩:=J.loc;exact ⟨m,hn⟩
    · rw [zag (Ne.symm hDC)];exact J.free
    · have l1:s2.heap.objs.size≥Nat.succ X.env.locals:=I2.lt
      intro zz;have zz':@Eq Nat C X.env.locals:=zz;omega
    · have l1:X.s₀.heap.objs.size≤s2.heap.objs.size:=I2.sz
      show X.s₀.heap.objs.size≤C;omega
    · intro x c hx zz
      obtain ⟨v,o,ho,hd⟩:=I2.cell x c hx
      have l1:s2.heap.objs.size≥Nat.succ c:=Heap.lt_size ho
      have zz':@Eq Nat c C:=zz
      omega
    · intro p hp zz
      have l1:s2.heap.objs.size≥Nat.succ p.1:=Heap.lt_size (I2.pin p hp).1
      have zz':@Eq Nat p.1 C:=zz
      omega
    · exact I2.nofs (show s2.heap.objs.size≤C by omega)
  have loop:∀tk,codeAny (model X.prog X.w) X.A (.compLoop (.ListComp elt [⟨target,iter,[],0⟩,⟨t2,i2,[],0⟩] scope pos) 0 (.ref it) (.ref D) (compEnvC scope cl C X.env))
      (fun r s'=>∃D' vs H',Value.ref D = .ref D'∧r = .ok .next∧Inv X pins σ (upd H' D' (.lst vs)) s'∧H' D'=none∧Gone X pins (upd H' D' (.lst vs)) s' C∧∀D',H' D'=none→Q (.ref D') (upd H' D' (.lst vs))) { s2 with heap:=h₁,toks:=tk }:=by
    intro tk
    refine zdK (fun n s'=>∃i vs us k H',Inv X' [] (capσ tg.length ci σ) H' s'∧tn i s'.heap∧(∀b∈fp,H' b=none)∧H' D=none∧s'.heap.get? D=some { cls:=.type "list",data:=.seq us.toArray k }∧Vals vs us∧vs.length≤sizeLine∧W i n vs H') ?_ m0
      ⟨0,[],[],0,H2,I' tk,T.keep _ _ _ st2 (fun b hb o e=>old b o e),fun b hb=>(f2 b hb).1,fD,hD1,.nil,Nat.zero_le _,w0⟩ (hs2 _)
    rintro n s3 ⟨i,vs,us,k,H3,I3,st3,fr3,fD3,hD3,rv3,z3,w3⟩
    let pD:List (Addr×Obj):=[(D,{ cls:=.type "list",data:=.seq us.toArray k })]
    have pinD:∀ {σ':St} {H':Hp} {s':Shared},Inv X' [] σ' H' s'→H' D=none→s'.heap.get? D=some { cls:=.type "list",data:=.seq us.toArray k }→Inv X' pD σ' H' s':=fun {σ' H' s'} J f e =>
      J.pins_of fun p hp=>by
        have:p=(D,{ cls:=.type "list",data:=.seq us.toArray k }):=by simpa [pD] using hp
        subst this
        exact ⟨e,f,hDC,hDfs,fun v z=>by cases z⟩
    have statD:∀ {H':Hp},(∀b∈fp,H' b=none)→∀b∈fp,FpOk X' pD H' b:=fun hn b hb=>by
      obtain ⟨a1,a2,a3,a4,a5,_⟩:=stat hn b hb
      refine ⟨a1,a2,a3,a4,a5,fun p hp=>?_⟩
      have:p=(D,{ cls:=.type "list",data:=.seq us.toArray k }):=by
        have hp':p∈([]:List (Addr×Obj))++pD:=hp
        simpa [pD] using hp'
      subst this
      exact fun z=>hDfp (by rw [show D=b from z];exact hb)
    rcases turn i n vs H3 w3 with ⟨stop,qn⟩ | ⟨go,N,hN,step⟩
    · refine thn (T.done X' rfl rfl rfl hcalm i pD s3 _ H3 _ (pinD I3 fD3 hD3) (statD fr3) st3 stop) fun r s4 ⟨hr,I4⟩=>?_
      subst hr
      have eD:s4.heap.get? D=some { cls:=.type "list",data:=.seq us.toArray k }:=(I4.pin (D,_) (by simp [pD])).1
      exact fin I4 fD3 eD rv3 z3 qn
    · refine thn (T.item X' rfl rfl rfl hcalm i pD s3 _ H3 _ (pinD I3 fD3 hD3) (statD fr3) st3 go) fun r s4 ⟨u,hr,h4⟩=>?_
      subst hr
      refine thn h4 fun _ s5 ⟨x,H5,I5,r5,y5,st5,fr5⟩=>?_
      have I5':=I5.pinned (statD fr5) (T.obj _ _ st5)
      refine thn (hg C fp s2 H2 _ s5 _ H5 x u _ I5' r5 (step x H5 y5)) fun _ s6 ⟨σ6,H6,I6,q6⟩=>?_
      have e6:=I6.pin (D,_) (List.mem_append_right _ (List.mem_append_left _ (by simp [pD] <;> rfl)))
      have I6':Inv X' (zb8 fp s5.heap) σ6 H6 s6:=I6.pins_of fun p hp=>I6.pin p (List.mem_append_right _ (List.mem_append_right _ hp))
      refine thn (zg5 (X:=X') rfl hcalm (hi2 C fp s2 H2) (hg2 C fp s2 H2) (he C fp s2 H2) hDC hDfs hDcell (show s2.heap.objs.size≤D by omega) (fun p hp=>?_) I6' e6.2.1 e6.1 rv3 z3 q6) fun v s7 h7=>thn h7 fun itv s8 h8=>codeAny_mono h8 fun r s9 ⟨hr,σ',vs',us',k',H',J,f',e',rv',z',n'⟩=>?_
      · have hp':p∈([]:List (Addr×Obj))++zb8 fp s5.heap:=hp
        obtain ⟨hb,_⟩:=zdj (by simpa using hp')
        exact fun zz=>hDfp (by rw [←zz];exact hb)
      obtain ⟨m',hm,w'⟩:=hN _ _ n'
      have pb:∀b∈fp,∀o,s5.heap.get? b=some o→s9.heap.get? b=some o∧H' b=none:=fun b hb o e=>by
        have:=J.pin (b,o) (List.mem_append_right _ (za8 hb e))
        exact ⟨this.1,this.2.1⟩
      refine ⟨hr,m',hm,i+1,vs',us',k',H',recap (pl:=[]) (pl':=zb8 fp s5.heap) J,T.keep _ _ _ st5 fun b hb o e=>(pb b hb o e).1,fun b hb=>?_,f',e',rv',z',w'⟩
      obtain ⟨o,e,_⟩:=T.obj _ _ st5 b hb
      exact (pb b hb o e).2
  exact codeAny_compStart_list (loop _) (T.self X.A 0 _ _ _ (T.keep _ _ _ st2 (fun b hb o e=>old b o e)) (loop _))
theorem yfI {i:Nat} {y:Str} {py:Pos} {elt target iter t2 i2:Expr} {scope:Scope} {pos spos:Pos} {tg cp:List Str} {ci:List Nat} {wi wi2:TI} {g g2:TG} {te:TE}
    (hN:X.N.Nodup) (hi':X.N[i]?=some y) (hy:Loc X.env.scope y)
    (S:CSc X.N X.env.scope tg cp ci scope) (hcalm:X.calm=true) (hi:PI X target iter wi)
    (hg:∀cl C fp s H,PG (cxC X (tg++cp) scope cl C fp s H) target g) (hi2:∀cl C fp s H,PI (cxC X (tg++cp) scope cl C fp s H) t2 i2 wi2) (hg2:∀cl C fp s H,PG (cxC X (tg++cp) scope cl C fp s H) t2 g2) (he:∀cl C fp s H,PE (cxC X (tg++cp) scope cl C fp s H) elt te)
    (hsw:swapsWith (.ListComp elt [⟨target,iter,[],0⟩,⟨t2,i2,[],0⟩] scope pos) (some (.Name y py)) spos.line X.env=pure true:=by rfl)
    (hs:∀x,foldedSetIterable iter X.env x=pure x:=by intro _;rfl) (hs2:∀env x,foldedSetIterable i2 env x=pure x:=by intro _ _;rfl) (hf:X.fn y=true∨X.env.scope.names.lookup y=some .local:=by first|exact .inl rfl|exact .inr rfl|assumption) :
    PS X (.Assign [.Name y py] (.ListComp elt [⟨target,iter,[],0⟩,⟨t2,i2,[],0⟩] scope pos) spos) (tAsg (yf7 wi tg.length ci g wi2 g2 te) (zau i)):=by
  intro pins s σ H D I h
  obtain ⟨cl,hclos,h1,h2⟩:=zba (scope:=scope) (env:=X.env) fun x hx hf=>I.ok.has x.1 (S.free x hx hf)
  rw [exec_Assign_Name_used _ _ _ _ hsw]
  refine wpAny_bind (wpAny_standAt (wpAny_bind ?_))
  show wpAny _ X.A (do let _ ←comprehension (.ListComp elt [⟨target,iter,[],0⟩,⟨t2,i2,[],0⟩] scope pos) scope X.env _ (newList []) false (eval iter X.env) (some (assign (.Name y py) X.env))) _ _ s
  refine wpAny_bind (wpAny_mono (wpAny_comprehension_free (use:=some (assign (.Name y py) X.env)) (Q:=fun _ s'=>SP X pins D .next s') rfl hs hclos S.kind S.loc
    (thn (ze9 S hcalm hi h1 h2 (hg cl) (hi2 cl) (hg2 cl) (he cl) hs2 I h) fun x s1 q1=>thn q1 fun it s2 q2=>thn q2 fun acc s3 q3=>thn q3 fun cenv s4 q4=>codeAny_mono q4 fun r s' q=>?_)) (fun _ s' hq=>wpAny_pure (wpAny_pure hq)) fun _ _ e=>e)
  obtain ⟨D',vs,H',e1,e2,I',f,G,q⟩:=q
  subst e1 e2
  show wpAny _ X.A (assign (.Name y py) X.env (.ref D')) _ _ _
  obtain ⟨m,o,es,ep,ho,hd,hk⟩:=G.ns
  have pin:Inv X ((cenv.locals,o)::pins) σ (upd H' D' (.lst vs)) s':=I'.pins_of fun p hp=>by
    rcases List.mem_cons.mp hp with z|z
    · subst z
      exact ⟨ho,G.free,G.ne,G.nofs,fun v z=>by rw [hd] at z;cases z⟩
    · exact I'.pin p (List.mem_append_right _ z)
  refine wpAny_assign_Name (zaY (v:=V.ref D') pin hN hi' hy (show RelV (.ref D') (.ref D') from rfl) (fun s2 I2=>?_) hf)
  have I3:Inv X pins (σ.set i (some (.ref D'))) (upd H' D' (.lst vs)) s2:=I2.pins_of fun p hp=>I2.pin p (List.mem_append_right _ (List.mem_cons_of_mem _ hp))
  have e2:=I2.pin (cenv.locals,o) (List.mem_append_right _ List.mem_cons_self)
  have G2:Gone X pins (upd H' D' (.lst vs)) s2 cenv.locals:=⟨⟨m,o,es,ep,e2.1,hd,hk⟩,G.free,G.ne,G.ab,G.cells,G.pins,G.nofs⟩
  exact ⟨m,⟨o,es,ep,e2.1,hd,hk⟩,fun h' hsb=>⟨_,_,G2.turned I3 hsb,q D' f⟩⟩
end
theorem ze5 {J:It} {n:Nat} {G:Hp→Prop} {y:Nat→V→Hp→Hp→Prop} (S:Seqs J n G y) {σc:St} {g:TG} {In:List V→(List V→Hp→Prop)→St→Hp→Prop} {H:Hp} {Fn:List V→Hp→Prop} (Pv:Nat→List V→Hp→Prop) (h0:Pv 0 [] H) (hl:∀i acc H,i≤n→Pv i acc H→G H)
    (hs:∀i acc x H H',i<n→Pv i acc H→y i x H H'→g x σc H' fun σ2 H2=>In acc (Pv (i+1)) σ2 H2)
    (hd:∀acc H,Pv n acc H→Fn acc H) :
    ∃W:yfZ,(∃m,W 0 m [] H)∧∀i m acc H,W i m acc H→
      (J.stop i H∧Fn acc H)∨
      (J.go i H∧∃N:List V→Hp→Prop,(∀acc' H',N acc' H'→∃m',m'<m∧W (i+1) m' acc' H')∧∀x H',J.yld i H x H'→g x σc H' fun σ2 H2=>In acc N σ2 H2):=by
  refine ⟨fun i m acc H=>m=n-i∧i≤n∧Pv i acc H,⟨n,by simp,Nat.zero_le _,h0⟩,?_⟩
  rintro i m acc H ⟨rfl,hi,p⟩
  by_cases hlt:i<n
  · exact .inr ⟨S.go i H hlt (hl i acc H hi p),Pv (i+1),fun acc' H' p'=>⟨n-(i+1),by omega,rfl,hlt,p'⟩,fun x H' q=>hs i acc x H H' hlt p (S.yld i H x H' hlt (hl i acc H hi p) q)⟩
  · have e:i=n:=by omega
    subst e
    exact .inl ⟨S.stop H (hl _ acc H hi p),hd acc H p⟩
theorem ygX {J:It} {n:Nat} {G:Hp→Prop} {y:Nat→V→Hp→Hp→Prop} (S:Seqs J n G y) {g:TG} {te:TE} {σ:St} {acc:List V} {H:Hp} {N:List V→Hp→Prop} (Pv:Nat→St→List V→Hp→Prop) (h0:Pv 0 σ acc H) (hl:∀i σ acc H,i≤n→Pv i σ acc H→G H)
    (hz:∀i σ acc H,i<n→Pv i σ acc H→acc.length<sizeLine)
    (hs:∀i σ acc x H H',i<n→Pv i σ acc H→y i x H H'→g x σ H' fun σ2 H2=>te σ2 H2 fun v H3=>Pv (i+1) σ2 (acc++[v]) H3)
    (hd:∀σ acc H,Pv n σ acc H→N acc H) :
    ∃W:Nat→Nat→St→List V→Hp→Prop,(∃m,W 0 m σ acc H)∧∀i m σ acc H,W i m σ acc H→
      (J.stop i H∧N acc H)∨
      (J.go i H∧acc.length<sizeLine∧∃N2:St→List V→Hp→Prop,(∀σ' acc' H',N2 σ' acc' H'→∃m',m'<m∧W (i+1) m' σ' acc' H')∧∀x H',J.yld i H x H'→g x σ H' fun σ2 H2=>te σ2 H2 fun v H3=>N2 σ2 (acc++[v]) H3):=by
  refine ⟨fun i m σ acc H=>m=n-i∧i≤n∧Pv i σ acc H,⟨n,by simp,Nat.zero_le _,h0⟩,?_⟩
  rintro i m σ acc H ⟨rfl,hi,p⟩
  by_cases hlt:i<n
  · exact .inr ⟨S.go i H hlt (hl i σ acc H hi p),hz i σ acc H hlt p,Pv (i+1),fun σ' acc' H' p'=>⟨n-(i+1),by omega,rfl,hlt,p'⟩,fun x H' q=>hs i σ acc x H H' hlt p (S.yld i H x H' hlt (hl i σ acc H hi p) q)⟩
  · have e:i=n:=by omega
    subst e
    exact .inl ⟨S.stop H (hl _ σ acc H hi p),hd σ acc H p⟩
end L2
end
section
-- text: ExtRp
namespace L2
open PySem PySem.Spec PyProof.Rows
section
open PySem.SeqAt
open PySem.AutoSeq1 (wpAny_loadPart')
open PySem.MeetsSeq PySem.MeetsSeq2 PySem.MeetsSeq3
end
section
variable {X:Cx}
end
end L2
end
section
-- text: ExtRq
namespace L2
open PySem PySem.Spec PyProof.Rows
section
variable {X:Cx}
end
end L2
end
section
-- text: ExtRu
namespace L2
open PySem PySem.W PySem.Calls PyProof.Rows
local macro_rules | `(tactic| ac_rfl) => `(tactic| first | omega | (dsimp only; omega))
def zgK:Bool→Keyed→Array Keyed→Nat→Nat→Nat→StateT SortSt Sem (Option Nat):=sortPriv% PySem.Builtin.gallop
def yfW:Array Keyed→Array Keyed→StateT SortSt Sem (Array Keyed):=sortPriv% PySem.Builtin.mergeLo
def yfQ:Array Keyed→Array Keyed→StateT SortSt Sem (Array Keyed):=sortPriv% PySem.Builtin.mergeHi
section
variable {prog:Program} {w:World} {A:Around} {E:Value→Shared→Prop} {s:Shared} {κ:SortKind}
theorem S_if {α σ:Type} {M:Model} {c:Prop} [Decidable c] {m₁ m₂:StateT σ Sem α} {Q:α→σ→Prop} {st:σ} (h₁:c→wpS M A E s m₁ Q st) (h₂:¬ c→wpS M A E s m₂ Q st):wpS M A E s (if c then m₁ else m₂) Q st:=by
  split
  · exact h₁ ‹_›
  · exact h₂ ‹_›
theorem ybL {β σ:Type} {M:Model} {a b:Nat} {f:Nat→β→StateT σ Sem (ForInStep β)} (I:Nat→β→σ→Prop) (R:β→σ→Prop) {Q:β→σ→Prop} {c:β} {st:σ} (h:I a c st) (hend:∀c st,I (max a b) c st→R c st) (hq:∀c st,R c st→Q c st)
    (hstep:∀i c st,a≤i→i<b→I i c st→wpS M A E s (f i c) (fun r st'=>match r with | .done c'=>R c' st' | .yield c'=>I (i+1) c' st') st):wpS M A E s (forIn [a:b] c f) Q st:=wpS_mono (wpS_forRange (Q:=R) I hstep hend h) hq
def Answ (prog:Program) (w:World) (A:Around) (s:Shared) (κ:SortKind) (g:Keyed→Prop):Prop:=∀(x y:Keyed) (C:Bool→Shared→Prop),g x→g y→(∀b,C b s)→wpAny (model prog w) A (keyLt' κ x.1 y.1) C (fun _ _=>False) s
variable {g:Keyed→Prop} (hA:Answ prog w A s κ g)
include hA
theorem S_lt {st:SortSt} {x y:Keyed} {Q:Option Bool→SortSt→Prop} (hk:kindOf st=κ) (gx:g x) (gy:g y) (h:∀b,Q (some b) st):wpS (model prog w) A E s (lt' x y) Q st:=by
  rw [lt'_eq]
  refine wpS_bind (wpS_get ?_)
  rw [hk]
  refine wpS_bind (wpS_lift (wpAny_attempt (wpAny_mono (hA x y (fun b s'=>s'=s∧∃c,b=c) gx gy fun b=>⟨rfl,b,rfl⟩) (fun b s' hb=>?_) fun _ _ e=>e.elim)))
  obtain ⟨rfl,_⟩:=hb
  exact ⟨rfl,wpS_pure (h b)⟩
omit hA in
theorem zaE {st:SortSt} {a:Array Keyed} {i:Nat} {Q:Keyed→SortSt→Prop} (hi:i<a.size) (h:Q a[i] st):wpS (model prog w) A E s (elem' a i) Q st:=by
  rw [elem'_eq,Array.getElem?_eq_getElem hi]
  exact wpS_pure h
theorem yg8 {st:SortSt} {i j:Nat} {Q:Option Bool→SortSt→Prop} (hk:kindOf st=κ) (hi:i<(arrOf st).size) (hj:j<(arrOf st).size) (gs:∀x∈(arrOf st).toList,g x) (h:∀b,Q (some b) st):wpS (model prog w) A E s (ltAt' i j) Q st:=by
  rw [ltAt'_eq]
  refine wpS_bind (wpS_get ?_)
  refine wpS_bind (zaE hi (wpS_bind (zaE hj ?_)))
  exact S_lt hA hk (gs _ (by simp)) (gs _ (by simp)) h
omit hA in
theorem gd {a:Array Keyed} (gs:∀x∈a.toList,g x) {i:Nat} (hi:i<a.size):g a[i]:=gs _ (by simp)
def beyG (left:Bool) (key:Keyed) (a:Array Keyed) (j:Nat):StateT SortSt Sem (Option Bool):=elem' a j >>= fun x=>if left=true then lt' x key else lt' key x >>= fun r=>pure (r.map fun b=>!b)
theorem zfA {st:SortSt} {left:Bool} {key:Keyed} {a:Array Keyed} {j:Nat} {Q:Option Bool→SortSt→Prop} (hk:kindOf st=κ) (gk:g key) (gs:∀x∈a.toList,g x) (hj:j<a.size) (h:∀b,Q (some b) st):wpS (model prog w) A E s (beyG left key a j) Q st:=by
  refine wpS_bind (zaE hj ?_)
  cases left
  · exact wpS_bind (S_lt hA hk gk (gd gs hj) fun b=>wpS_pure (h _))
  · exact S_lt hA hk (gd gs hj) gk h
theorem zbC {st:SortSt} {left:Bool} {key:Keyed} {a:Array Keyed} {base n hint:Nat} {Q:Option Nat→SortSt→Prop} (hk:kindOf st=κ) (gk:g key) (gs:∀x∈a.toList,g x) (hb:base+n≤a.size) (hh:hint<n) (h:∀k,k≤n→Q (some k) st):wpS (model prog w) A E s (zgK left key a base n hint) Q st:=by
  have fin:∀(lo hi:Nat),hi≤n→wpS (model prog w) A E s (forIn [:n] ((none,lo,hi):Option (Option Nat)×Nat×Nat) fun _ z=>if z.2.1≥z.2.2 then pure (ForInStep.done (none,z.2.1,z.2.2)) else beyG left key a (base+(z.2.1+(z.2.2-z.2.1)/2)) >>= fun r=>match r with
      | some c=>if c=true then pure (ForInStep.yield (none,z.2.1+(z.2.2-z.2.1)/2+1,z.2.2)) else pure (ForInStep.yield (none,z.2.1,z.2.1+(z.2.2-z.2.1)/2))
      | _=>pure (ForInStep.done (some none,z.2.1,z.2.2))) (fun z st'=>st'=st∧z.1=none∧z.2.2≤n) st:=by
    intro lo hi h1
    refine wpS_forRange (fun _ (z:Option (Option Nat)×Nat×Nat) st'=>st'=st∧z.1=none∧z.2.2≤n) ?_ (fun _ _ x=>x) ⟨rfl,rfl,h1⟩
    rintro i ⟨r,lo,hi⟩ st' _ _ ⟨rfl,e,h1⟩
    dsimp only at e h1 ⊢
    split
    · exact wpS_pure ⟨rfl,rfl,h1⟩
    · refine wpS_bind (zfA hA hk gk gs (by omega) fun c=>?_)
      cases c
      · exact wpS_pure ⟨rfl,rfl,(by ac_rfl)⟩
      · exact wpS_pure ⟨rfl,rfl,h1⟩
  refine wpS_bind ?_
  refine zfA (j:=base+hint) hA hk gk gs (by omega) fun c=>?_
  cases c
  · refine wpS_bind (ybL (fun _ z st'=>st'=st∧z.1=none) (fun z st'=>st'=st∧z.1=none) ⟨rfl,rfl⟩ (fun _ _ x=>x) ?_ ?_)
    rotate_left
    · rintro i ⟨r,lo,hi⟩ st' _ _ ⟨rfl,e⟩
      dsimp only at e ⊢
      split
      · exact wpS_pure ⟨rfl,rfl⟩
      · refine wpS_bind (zfA (j:=base+(hint-hi)) hA hk gk gs (by omega) fun c=>?_)
        cases c
        · exact wpS_pure ⟨rfl,rfl⟩
        · exact wpS_pure ⟨rfl,rfl⟩
    · rintro ⟨r,lo,hi⟩ st' ⟨rfl,e⟩
      dsimp only at e
      subst e
      refine wpS_bind (wpS_mono (fin _ _ (by omega)) ?_)
      rintro ⟨r,lo',hi'⟩ st'' ⟨rfl,e,h1⟩
      dsimp only at e h1
      subst e
      exact wpS_pure (h _ h1)
  · refine wpS_bind (ybL (fun _ z st'=>st'=st∧z.1=none) (fun z st'=>st'=st∧z.1=none) ⟨rfl,rfl⟩ (fun _ _ x=>x) ?_ ?_)
    rotate_left
    · rintro i ⟨r,lo,hi⟩ st' _ _ ⟨rfl,e⟩
      dsimp only at e ⊢
      split
      · exact wpS_pure ⟨rfl,rfl⟩
      · refine wpS_bind (zfA (j:=base+(hint+hi)) hA hk gk gs (by omega) fun c=>?_)
        cases c
        · exact wpS_pure ⟨rfl,rfl⟩
        · exact wpS_pure ⟨rfl,rfl⟩
    · rintro ⟨r,lo,hi⟩ st' ⟨rfl,e⟩
      dsimp only at e
      subst e
      refine wpS_bind (wpS_mono (fin _ _ (by omega)) ?_)
      rintro ⟨r,lo',hi'⟩ st'' ⟨rfl,e,h1⟩
      dsimp only at e h1
      subst e
      exact wpS_pure (h _ h1)
end
theorem nbeq {x y:Nat} (h:¬ (x==y)=true):x≠y:=fun e=>h (by rw [e];exact beq_self_eq_true _)
theorem pm1 {α:Type} (o U A D:List α):(o++U++A++D).Perm (o++A++(U++D)):=by
  rw [List.append_assoc,List.append_assoc,List.append_assoc]
  refine List.Perm.append_left o ?_
  rw [←List.append_assoc,←List.append_assoc]
  exact List.Perm.append_right D List.perm_append_comm
theorem zgO {α:Type} {a:Array α} {i:Nat} (h:i<a.size):a.toList.drop i=a[i]::a.toList.drop (i+1):=by
  rw [List.drop_eq_getElem_cons (by simpa using h)];rfl
theorem yf6 {α:Type} (a:Array α) (i k:Nat):a.toList.drop i=(a.extract i (i+k)).toList++a.toList.drop (i+k):=by
  rw [Array.toList_extract,List.extract_eq_take_drop,Nat.add_sub_cancel_left,←List.drop_drop,List.take_append_drop]
theorem ycX {α:Type} (a:Array α) (i:Nat):(a.extract i a.size).toList=a.toList.drop i:=by
  rw [Array.toList_extract,List.extract_eq_take_drop,List.take_of_length_le (by simp)]
def MJ (a b:Array Keyed) (c:Nat) (o:Array Keyed) (i j:Nat):Prop:=(o.toList++a.toList.drop i++b.toList.drop j).Perm (a.toList++b.toList)∧j<b.size∧i+1<a.size∧c≤i+j
section
variable {a b o:Array Keyed} {i j:Nat} {X:List Keyed}
theorem mj_b (h:(o.toList++a.toList.drop i++b.toList.drop j).Perm X) (hj:j<b.size):((o.push b[j]).toList++a.toList.drop i++b.toList.drop (j+1)).Perm X:=by
  rw [zgO hj] at h
  rw [Array.toList_push]
  exact (pm1 _ [b[j]] _ _).trans h
theorem mj_a (h:(o.toList++a.toList.drop i++b.toList.drop j).Perm X) (hi:i<a.size):((o.push a[i]).toList++a.toList.drop (i+1)++b.toList.drop j).Perm X:=by
  rw [zgO hi] at h
  rw [Array.toList_push]
  simpa using h
theorem zhm (k:Nat) (h:(o.toList++a.toList.drop i++b.toList.drop j).Perm X):((o++b.extract j (j+k)).toList++a.toList.drop i++b.toList.drop (j+k)).Perm X:=by
  rw [yf6 b j k] at h
  rw [Array.toList_append]
  exact (pm1 _ _ _ _).trans h
theorem yhr (k:Nat) (h:(o.toList++a.toList.drop i++b.toList.drop j).Perm X):((o++a.extract i (i+k)).toList++a.toList.drop (i+k)++b.toList.drop j).Perm X:=by
  rw [yf6 a i k] at h
  rw [Array.toList_append]
  simpa using h
theorem zcq (h:(o.toList++a.toList.drop i++b.toList.drop j).Perm X):(o++a.extract i a.size++b.extract j b.size).toList.Perm X:=by
  rw [Array.toList_append,Array.toList_append,ycX,ycX];exact h
theorem zc9 (h:(o.toList++a.toList.drop i++b.toList.drop j).Perm X):(o++b.extract j b.size++a.extract i a.size).toList.Perm X:=by
  rw [Array.toList_append,Array.toList_append,ycX,ycX]
  refine List.Perm.trans ?_ h
  rw [List.append_assoc,List.append_assoc]
  exact List.Perm.append_left _ List.perm_append_comm
end
def MR (a b:Array Keyed) (c:Nat) (r:Option (Array Keyed)) (o:Array Keyed) (i j:Nat):Prop:=(∃x,r=some x∧x.toList.Perm (a.toList++b.toList))∨(r=none∧MJ a b c o i j)
def Sm (st st':SortSt):Prop:=kindOf st'=kindOf st∧arrOf st'=arrOf st∧pendingOf st'=pendingOf st∧failedOf st'=failedOf st
section
variable {prog:Program} {w:World} {A:Around} {E:Value→Shared→Prop} {s:Shared} {κ:SortKind}
variable {g:Keyed→Prop} (hA:Answ prog w A s κ g)
include hA
theorem yfa {st:SortSt} {a b:Array Keyed} {Q:Array Keyed→SortSt→Prop} (hk:kindOf st=κ) (ga:∀x∈a.toList,g x) (gb:∀x∈b.toList,g x) (na:0<a.size) (nb:0<b.size) (h:∀r st',r.toList.Perm (a.toList++b.toList)→Sm st st'→Q r st'):wpS (model prog w) A E s (yfW a b) Q st:=by
  refine wpS_bind (wpS_lift (wpAny_rule ⟨rfl,?_⟩))
  refine wpS_bind (zaE nb ?_)
  have p0:((#[b[0]]:Array Keyed).toList++a.toList.drop 0++b.toList.drop 1).Perm (a.toList++b.toList):=mj_b (o:=#[]) (i:=0) (j:=0) (by simp) nb
  refine S_if (fun _=>wpS_pure (h _ _ (zcq p0) ⟨rfl,rfl,rfl,rfl⟩)) fun c1=>?_
  refine S_if (fun _=>wpS_pure (h _ _ (zc9 p0) ⟨rfl,rfl,rfl,rfl⟩)) fun c2=>?_
  have c1':1≠b.size:=fun e=>c1 (by rw [←e];rfl)
  have c2':0+1≠a.size:=fun e=>c2 (by rw [←e];rfl)
  refine wpS_bind (wpS_get ?_)
  refine wpS_bind (ybL (fun i z st'=>Sm st st'∧z.1=none∧MJ a b (i+1) z.2.1 z.2.2.1 z.2.2.2.1) (fun z st'=>Sm st st'∧∃x,z.1=some x∧x.toList.Perm (a.toList++b.toList)) ⟨⟨rfl,rfl,rfl,rfl⟩,rfl,p0,(by ac_rfl),(by ac_rfl),(by ac_rfl)⟩ ?_ ?_ ?_)
  · rintro ⟨r,o,i,j,m⟩ st' ⟨_,_,p,q1,q2,q3⟩
    exfalso
    dsimp only at q1 q2 q3
    omega
  · rintro ⟨r,o,i,j,m⟩ st' ⟨e,x,e2,p⟩
    dsimp only at e2
    subst e2
    exact wpS_pure (h _ _ p e)
  rintro c ⟨r,o,i,j,m⟩ st' _ _ ⟨e0,e1,p⟩
  refine wpS_bind (ybL (fun k z st'=>Sm st st'∧z.1=none∧MJ a b (c+1+k) z.2.1 z.2.2.1 z.2.2.2.1) (fun z st'=>Sm st st'∧MR a b (c+1+1) z.1 z.2.1 z.2.2.1 z.2.2.2.1) ⟨e0,rfl,p⟩ ?_ ?_ ?_)
  · rintro ⟨r,o,i,j,m⟩ st' ⟨e,e1,p,q1,q2,q3⟩
    dsimp only at q1 q2 q3 e1
    exact ⟨e,.inr ⟨e1,p,q1,q2,(by ac_rfl)⟩⟩
  rotate_left
  · rintro k ⟨r,o,i,j,ac,bc⟩ st' _ _ ⟨e0,e1,p,q1,q2,q3⟩
    dsimp only at e1 p q1 q2 q3
    have q2':i<a.size:=by omega
    refine wpS_bind (zaE q1 (wpS_bind (zaE q2' (wpS_bind (S_lt hA (e0.1.trans hk) (gd gb q1) (gd ga q2') fun c=>?_)))))
    cases c
    · refine wpS_bind (zaE (a:=a) (i:=i) (by omega) ?_)
      have p':=mj_a p (by omega)
      refine S_if (fun _=>wpS_pure ⟨e0,.inl ⟨_,rfl,zc9 p'⟩⟩) fun c3=>?_
      have c3':i+1+1≠a.size:=fun e=>c3 (by rw [e];exact beq_self_eq_true _)
      refine S_if (fun _=>wpS_pure ⟨e0,.inr ⟨rfl,p',q1,(by ac_rfl),(by ac_rfl)⟩⟩) fun _=>wpS_pure ⟨e0,rfl,p',q1,(by ac_rfl),(by ac_rfl)⟩
    · refine wpS_bind (zaE (a:=b) (i:=j) (by omega) ?_)
      have p':=mj_b p q1
      refine S_if (fun _=>wpS_pure ⟨e0,.inl ⟨_,rfl,zcq p'⟩⟩) fun c3=>?_
      have c3':j+1≠b.size:=fun e=>c3 (by rw [e];exact beq_self_eq_true _)
      refine S_if (fun _=>wpS_pure ⟨e0,.inr ⟨rfl,p',(by ac_rfl),q2,(by ac_rfl)⟩⟩) fun _=>wpS_pure ⟨e0,rfl,p',(by ac_rfl),q2,(by ac_rfl)⟩
  rintro ⟨r,o,i,j,ac,bc⟩ st1 ⟨e0,⟨x,e,px⟩ | ⟨e1,p⟩⟩
  · dsimp only at e
    subst e
    exact wpS_pure ⟨e0,_,rfl,px⟩
  dsimp only at e1 p
  subst e1
  refine wpS_bind (wpS_lift (wpAny_rule ⟨rfl,?_⟩))
  refine wpS_bind (ybL (fun _ z st'=>Sm st st'∧z.1=none∧MJ a b (c+1+1) z.2.1 z.2.2.1 z.2.2.2.1) (fun z st'=>Sm st st'∧MR a b (c+1+1) z.1 z.2.1 z.2.2.1 z.2.2.2.1) ⟨e0,rfl,p⟩ ?_ ?_ ?_)
  · rintro ⟨r,o,i,j,m⟩ st' ⟨e,e1,p⟩
    exact ⟨e,.inr ⟨e1,p⟩⟩
  · rintro ⟨r,o,i,j,m,ac,bc⟩ st1 ⟨e0,⟨x,e,px⟩ | ⟨e1,p⟩⟩
    · dsimp only at e
      subst e
      exact wpS_pure ⟨e0,_,rfl,px⟩
    dsimp only at e1 p
    subst e1
    exact wpS_bind (wpS_modify (wpS_pure ⟨e0,rfl,p⟩))
  rintro k ⟨r,o,i,j,m,ac,bc⟩ st1 _ _ ⟨e0,e1,p,q1,q2,q3⟩
  dsimp only at e1 p q1 q2 q3
  refine S_if (fun _=>?_) fun _=>?_
  all_goals
    refine wpS_bind (wpS_modify (wpS_bind (zaE q1 (wpS_bind (zbC hA (e0.1.trans hk) (gd gb q1) ga (base:=i) (n:=a.size-i) (hint:=0) (by ac_rfl) (by ac_rfl) fun k hk1=>S_if (fun _=>?_) fun _=>?_)))))
    have P1:=yhr k p
    refine S_if (fun _=>wpS_pure ⟨e0,.inl ⟨_,rfl,zc9 P1⟩⟩) fun c1=>S_if (fun _=>wpS_pure ⟨e0,.inl ⟨_,rfl,zcq P1⟩⟩) fun c2=>?_
    have c1':=nbeq c1
    have c2':=nbeq c2
    dsimp only at c1' c2'
    have Q2:i+k<a.size:=by omega
    rotate_left
    have P1:=p
    have Q2:i<a.size:=by omega
    all_goals
      have P2:=mj_b P1 q1
      refine wpS_bind (zaE q1 (S_if (fun _=>wpS_pure ⟨e0,.inl ⟨_,rfl,zcq P2⟩⟩) fun c3=>?_))
      have c3':=nbeq c3
      dsimp only at c3'
      refine wpS_bind (zaE Q2 (wpS_bind (zbC hA (e0.1.trans hk) (gd ga Q2) gb (base:=j+1) (n:=b.size-(j+1)) (hint:=0) (by ac_rfl) (by ac_rfl) fun k2 hk2=>S_if (fun _=>?_) fun _=>?_)))
      have P3:=zhm k2 P2
      refine S_if (fun _=>wpS_pure ⟨e0,.inl ⟨_,rfl,zcq P3⟩⟩) fun c4=>?_
      have c4':=nbeq c4
      dsimp only at c4'
      rotate_left
      have P3:=P2
      all_goals
        have P4:=mj_a P3 Q2
        refine wpS_bind (zaE Q2 (S_if (fun _=>wpS_pure ⟨e0,.inl ⟨_,rfl,zc9 P4⟩⟩) fun c5=>?_))
        have c5':=nbeq c5
        dsimp only at c5'
        exact S_if (fun _=>wpS_pure ⟨e0,.inr ⟨rfl,P4,(by ac_rfl),(by ac_rfl),(by ac_rfl)⟩⟩) fun _=>wpS_pure ⟨e0,rfl,P4,(by ac_rfl),(by ac_rfl),(by ac_rfl)⟩
end
theorem yg0 {α:Type} {a:Array α} {n:Nat} (h:0<n) (h2:n≤a.size):a.toList.take n=a.toList.take (n-1)++[a[n-1]]:=by
  have e:n=n-1+1:=by omega
  have h3:n-1<a.toList.length:=by rw [Array.length_toList];omega
  conv=>lhs;rw [e,List.take_succ_eq_append_getElem h3]
  rfl
theorem yep {α:Type} (a:Array α) {k n:Nat} (h:k≤n):a.toList.take n=a.toList.take k++(a.extract k n).toList:=by
  rw [Array.toList_extract,List.extract_eq_take_drop,List.take_drop]
  have e:k+(n-k)=n:=by omega
  rw [e]
  have:=(List.take_append_drop k (a.toList.take n)).symm
  rwa [List.take_take,Nat.min_eq_left h] at this
theorem zf0 {α:Type} (a:Array α) (n:Nat):(a.extract 0 n).toList=a.toList.take n:=by
  rw [Array.toList_extract,List.extract_eq_take_drop,List.drop_zero,Nat.sub_zero]
def HJ (a b:Array Keyed) (c:Nat) (o:Array Keyed) (i j:Nat):Prop:=(a.toList.take i++b.toList.take j++o.toList.reverse).Perm (a.toList++b.toList)∧1≤i∧i≤a.size∧2≤j∧j≤b.size∧i+j+c≤a.size+b.size
section
variable {a b o:Array Keyed} {i j:Nat} {X:List Keyed}
theorem hj_a (h:(a.toList.take i++b.toList.take j++o.toList.reverse).Perm X) (h0:0<i) (hi:i≤a.size):(a.toList.take (i-1)++b.toList.take j++(o.push a[i-1]).toList.reverse).Perm X:=by
  rw [yg0 h0 hi] at h
  rw [Array.toList_push,List.reverse_append]
  exact (pm1 _ [a[i-1]] _ _).symm.trans h
theorem hj_b (h:(a.toList.take i++b.toList.take j++o.toList.reverse).Perm X) (h0:0<j) (hj:j≤b.size):(a.toList.take i++b.toList.take (j-1)++(o.push b[j-1]).toList.reverse).Perm X:=by
  rw [yg0 h0 hj] at h
  rw [Array.toList_push,List.reverse_append]
  simpa using h
theorem yhg {k:Nat} (h:(a.toList.take i++b.toList.take j++o.toList.reverse).Perm X) (hk:k≤i) (hi:i≤a.size):(a.toList.take k++b.toList.take j++(o++(a.extract k i).reverse).toList.reverse).Perm X:=by
  rw [yep a hk] at h
  rw [Array.toList_append,List.reverse_append,Array.toList_reverse,List.reverse_reverse]
  exact (pm1 _ _ _ _).symm.trans h
theorem zhu {k:Nat} (h:(a.toList.take i++b.toList.take j++o.toList.reverse).Perm X) (hk:k≤j) (hj:j≤b.size):(a.toList.take i++b.toList.take k++(o++(b.extract k j).reverse).toList.reverse).Perm X:=by
  rw [yep b hk] at h
  rw [Array.toList_append,List.reverse_append,Array.toList_reverse,List.reverse_reverse]
  simpa using h
theorem zcp (h:(a.toList.take i++b.toList.take j++o.toList.reverse).Perm X):(a.extract 0 i++b.extract 0 j++o.reverse).toList.Perm X:=by
  rw [Array.toList_append,Array.toList_append,zf0,zf0,Array.toList_reverse];exact h
theorem zce (h:(a.toList.take i++b.toList.take j++o.toList.reverse).Perm X):(b.extract 0 j++a.extract 0 i++o.reverse).toList.Perm X:=by
  rw [Array.toList_append,Array.toList_append,zf0,zf0,Array.toList_reverse]
  exact (List.Perm.append_right _ List.perm_append_comm).trans h
end
def HR (a b:Array Keyed) (c:Nat) (r:Option (Array Keyed)) (o:Array Keyed) (i j:Nat):Prop:=(∃x,r=some x∧x.toList.Perm (a.toList++b.toList))∨(r=none∧HJ a b c o i j)
section
variable {prog:Program} {w:World} {A:Around} {E:Value→Shared→Prop} {s:Shared} {κ:SortKind}
variable {g:Keyed→Prop} (hA:Answ prog w A s κ g)
include hA
theorem zfn {st:SortSt} {a b:Array Keyed} {Q:Array Keyed→SortSt→Prop} (hk:kindOf st=κ) (ga:∀x∈a.toList,g x) (gb:∀x∈b.toList,g x) (na:0<a.size) (nb:0<b.size) (h:∀r st',r.toList.Perm (a.toList++b.toList)→Sm st st'→Q r st'):wpS (model prog w) A E s (yfQ a b) Q st:=by
  refine wpS_bind (wpS_lift (wpAny_rule ⟨rfl,?_⟩))
  refine wpS_bind (zaE (a:=a) (i:=a.size-1) (by omega) ?_)
  have p0:(a.toList.take (a.size-1)++b.toList.take b.size++(#[a[a.size-1]]:Array Keyed).toList.reverse).Perm (a.toList++b.toList):=by
    refine hj_a (o:=#[]) (i:=a.size) ?_ na (Nat.le_refl _)
    rw [List.take_of_length_le (by simp),List.take_of_length_le (by simp)]
    simp
  refine S_if (fun _=>wpS_pure (h _ _ (zcp p0) ⟨rfl,rfl,rfl,rfl⟩)) fun c1=>?_
  refine S_if (fun _=>wpS_pure (h _ _ (zce p0) ⟨rfl,rfl,rfl,rfl⟩)) fun c2=>?_
  have c1':=nbeq c1
  have c2':=nbeq c2
  refine wpS_bind (wpS_get ?_)
  refine wpS_bind (ybL (fun i z st'=>Sm st st'∧z.1=none∧HJ a b (i+1) z.2.2.2.1 z.2.1 z.2.2.1) (fun z st'=>Sm st st'∧∃x,z.1=some x∧x.toList.Perm (a.toList++b.toList)) ⟨⟨rfl,rfl,rfl,rfl⟩,rfl,p0,(by ac_rfl),(by ac_rfl),(by ac_rfl),(by ac_rfl),(by ac_rfl)⟩ ?_ ?_ ?_)
  · rintro ⟨r,na,nb,o,m⟩ st' ⟨_,_,p,q1,q2,q3,q4,q5⟩
    exfalso
    dsimp only at q1 q2 q3 q4 q5
    omega
  · rintro ⟨r,na,nb,o,m⟩ st' ⟨e,x,e2,p⟩
    dsimp only at e2
    subst e2
    exact wpS_pure (h _ _ p e)
  rintro c ⟨r,na,nb,o,m⟩ st' _ _ ⟨e0,e1,p⟩
  refine wpS_bind (ybL (fun k z st'=>Sm st st'∧z.1=none∧HJ a b (c+1+k) z.2.2.2.1 z.2.1 z.2.2.1) (fun z st'=>Sm st st'∧HR a b (c+1+1) z.1 z.2.2.2.1 z.2.1 z.2.2.1) ⟨e0,rfl,p⟩ ?_ ?_ ?_)
  · rintro ⟨r,na,nb,o,m⟩ st' ⟨e,e1,p,q1,q2,q3,q4,q5⟩
    dsimp only at q1 q2 q3 q4 q5 e1
    exact ⟨e,.inr ⟨e1,p,q1,q2,q3,q4,(by ac_rfl)⟩⟩
  rotate_left
  · rintro k ⟨r,na,nb,o,ac,bc⟩ st' _ _ ⟨e0,e1,p,q1,q2,q3,q4,q5⟩
    dsimp only at e1 p q1 q2 q3 q4 q5
    have r1:nb-1<b.size:=by omega
    have r2:na-1<a.size:=by omega
    refine wpS_bind (zaE r1 (wpS_bind (zaE r2 (wpS_bind (S_lt hA (e0.1.trans hk) (gd gb r1) (gd ga r2) fun c=>?_)))))
    cases c
    · refine wpS_bind (zaE r1 ?_)
      have p':=hj_b p (by omega) q4
      refine S_if (fun _=>wpS_pure ⟨e0,.inl ⟨_,rfl,zce p'⟩⟩) fun c3=>?_
      have c3':=nbeq c3
      dsimp only at c3'
      refine S_if (fun _=>wpS_pure ⟨e0,.inr ⟨rfl,p',q1,q2,(by ac_rfl),(by ac_rfl),(by ac_rfl)⟩⟩) fun _=>wpS_pure ⟨e0,rfl,p',q1,q2,(by ac_rfl),(by ac_rfl),(by ac_rfl)⟩
    · refine wpS_bind (zaE r2 ?_)
      have p':=hj_a p q1 q2
      refine S_if (fun _=>wpS_pure ⟨e0,.inl ⟨_,rfl,zcp p'⟩⟩) fun c3=>?_
      have c3':=nbeq c3
      dsimp only at c3'
      refine S_if (fun _=>wpS_pure ⟨e0,.inr ⟨rfl,p',(by ac_rfl),(by ac_rfl),q3,q4,(by ac_rfl)⟩⟩) fun _=>wpS_pure ⟨e0,rfl,p',(by ac_rfl),(by ac_rfl),q3,q4,(by ac_rfl)⟩
  rintro ⟨r,na,nb,o,ac,bc⟩ st1 ⟨e0,⟨x,e,px⟩ | ⟨e1,p⟩⟩
  · dsimp only at e
    subst e
    exact wpS_pure ⟨e0,_,rfl,px⟩
  dsimp only at e1 p
  subst e1
  refine wpS_bind (wpS_lift (wpAny_rule ⟨rfl,?_⟩))
  refine wpS_bind (ybL (fun _ z st'=>Sm st st'∧z.1=none∧HJ a b (c+1+1) z.2.2.2.1 z.2.1 z.2.2.1) (fun z st'=>Sm st st'∧HR a b (c+1+1) z.1 z.2.2.2.1 z.2.1 z.2.2.1) ⟨e0,rfl,p⟩ ?_ ?_ ?_)
  · rintro ⟨r,na,nb,o,m⟩ st' ⟨e,e1,p⟩
    exact ⟨e,.inr ⟨e1,p⟩⟩
  · rintro ⟨r,na,nb,o,m,ac,bc⟩ st1 ⟨e0,⟨x,e,px⟩ | ⟨e1,p⟩⟩
    · dsimp only at e
      subst e
      exact wpS_pure ⟨e0,_,rfl,px⟩
    dsimp only at e1 p
    subst e1
    exact wpS_bind (wpS_modify (wpS_pure ⟨e0,rfl,p⟩))
  rintro k ⟨r,na,nb,o,m,ac,bc⟩ st1 _ _ ⟨e0,e1,p,q1,q2,q3,q4,q5⟩
  dsimp only at e1 p q1 q2 q3 q4 q5
  have r1:nb-1<b.size:=by omega
  refine S_if (fun _=>?_) fun _=>?_
  all_goals
    refine wpS_bind (wpS_modify (wpS_bind (zaE r1 (wpS_bind (zbC hA (e0.1.trans hk) (gd gb r1) ga (base:=0) (n:=na) (hint:=na-1) (by ac_rfl) (by ac_rfl) fun k hk1=>S_if (fun _=>?_) fun _=>?_)))))
    have P1:=yhg p hk1 q2
    refine S_if (fun _=>wpS_pure ⟨e0,.inl ⟨_,rfl,zcp P1⟩⟩) fun c1=>?_
    have c1':=nbeq c1
    have Q2:k-1<a.size:=by omega
    have Q3:0<k:=by omega
    have Q4:k≤a.size:=by omega
    rotate_left
    have P1:=p
    have Q2:na-1<a.size:=by omega
    have Q3:=q1
    have Q4:=q2
    all_goals
      have P2:=hj_b P1 (by ac_rfl) q4
      refine wpS_bind (zaE r1 (S_if (fun _=>wpS_pure ⟨e0,.inl ⟨_,rfl,zce P2⟩⟩) fun c3=>?_))
      have c3':=nbeq c3
      try dsimp only at c3'
      refine wpS_bind (zaE Q2 (wpS_bind (zbC hA (e0.1.trans hk) (gd ga Q2) gb (base:=0) (n:=nb-1) (hint:=nb-1-1) (by ac_rfl) (by ac_rfl) fun k2 hk2=>S_if (fun _=>?_) fun _=>?_)))
      have P3:=zhu (k:=k2) P2 (by ac_rfl) (by ac_rfl)
      refine S_if (fun _=>wpS_pure ⟨e0,.inl ⟨_,rfl,zce P3⟩⟩) fun c4=>S_if (fun _=>wpS_pure ⟨e0,.inl ⟨_,rfl,zcp P3⟩⟩) fun c6=>?_
      have c4':=nbeq c4
      have c6':=nbeq c6
      rotate_left
      have P3:=P2
      all_goals
        have P4:=hj_a P3 Q3 Q4
        refine wpS_bind (zaE Q2 (S_if (fun _=>wpS_pure ⟨e0,.inl ⟨_,rfl,zcp P4⟩⟩) fun c5=>?_))
        have c5':=nbeq c5
        try dsimp only at c5'
        exact S_if (fun _=>wpS_pure ⟨e0,.inr ⟨rfl,P4,(by ac_rfl),(by ac_rfl),(by ac_rfl),(by ac_rfl),(by ac_rfl)⟩⟩) fun _=>wpS_pure ⟨e0,rfl,P4,(by ac_rfl),(by ac_rfl),(by ac_rfl),(by ac_rfl),(by ac_rfl)⟩
end
end L2
end
section
-- text: ExtRv
namespace L2
open PySem PySem.W PySem.Calls PyProof.Rows
local macro_rules | `(tactic| ac_rfl) => `(tactic| first | omega | (dsimp only; omega))
def Pm (st st':SortSt):Prop:=kindOf st'=kindOf st∧pendingOf st'=pendingOf st∧failedOf st'=failedOf st∧(arrOf st').toList.Perm (arrOf st).toList
theorem Pm.rfl {st:SortSt}:Pm st st:=⟨Eq.refl _,Eq.refl _,Eq.refl _,.refl _⟩
theorem Pm.trans {a b c:SortSt} (x:Pm a b) (y:Pm b c):Pm a c:=⟨y.1.trans x.1,y.2.1.trans x.2.1,y.2.2.1.trans x.2.2.1,y.2.2.2.trans x.2.2.2⟩
theorem Pm.size {a b:SortSt} (x:Pm a b):(arrOf b).size=(arrOf a).size:=by
  have:=x.2.2.2.length_eq
  rwa [Array.length_toList,Array.length_toList] at this
section
variable {prog:Program} {w:World} {A:Around} {E:Value→Shared→Prop} {s:Shared} {κ:SortKind}
theorem zfw {st:SortSt} {i j:Nat} {Q:Unit→SortSt→Prop} (h:∀st',Pm st st'→Q () st'):wpS (model prog w) A E s (reverseSlice' i j) Q st:=by
  rw [reverseSlice'_eq]
  exact wpS_modify (h _ ⟨rfl,rfl,rfl,Array.perm_iff_toList_perm.mp (mirror_perm _ _ _ _)⟩)
theorem yhe {st:SortSt} {i j:Nat} {Q:Unit→SortSt→Prop} (h:∀st',Pm st st'→Q () st'):wpS (model prog w) A E s (moveDown' i j) Q st:=by
  rw [moveDown'_eq]
  exact wpS_modify (h _ ⟨rfl,rfl,rfl,Array.perm_iff_toList_perm.mp (bubble_perm _ _ _)⟩)
variable {g:Keyed→Prop} (hA:Answ prog w A s κ g)
include hA
theorem ych {st st':SortSt} {i j:Nat} {Q:Option Bool→SortSt→Prop} (hk:kindOf st=κ) (gs:∀x∈(arrOf st).toList,g x) (e:Pm st st') (hi:i<(arrOf st).size) (hj:j<(arrOf st).size) (h:∀b,Q (some b) st'):wpS (model prog w) A E s (ltAt' i j) Q st' :=
  yg8 hA (e.1.trans hk) (by rw [e.size];exact hi) (by rw [e.size];exact hj) (fun x hx=>gs x (e.2.2.2.mem_iff.mp hx)) h
theorem ygJ {st st':SortSt} {lo nrem n:Nat} {Q:Option (Option Nat)×Nat→SortSt→Prop} (hk:kindOf st=κ) (gs:∀x∈(arrOf st).toList,g x) (hz:lo+nrem≤(arrOf st).size) (e:Pm st st') (h1:1≤n) (h2:n≤nrem) (h:∀m,1≤m→m≤nrem→Q (none,m) st'):wpS (model prog w) A E s (forIn [n:nrem] ((none,n):Option (Option Nat)×Nat) fun _ z=>ltAt' (lo+z.2) (lo+z.2-1) >>= fun r=>match r with
      | some c=>if c=true then pure (ForInStep.done (none,z.2)) else pure (ForInStep.yield (none,z.2+1))
      | _=>pure (ForInStep.done (some none,z.2))) Q st':=by
  refine ybL (fun i z u=>u=st'∧z.1=none∧1≤z.2∧z.2≤i) (fun z u=>u=st'∧z.1=none∧1≤z.2∧z.2≤nrem) ⟨rfl,rfl,h1,Nat.le_refl _⟩ ?_ ?_ ?_
  · rintro ⟨r,m⟩ u ⟨h1,h2,h3,h4⟩
    exact ⟨h1,h2,h3,by omega⟩
  · rintro ⟨r,m⟩ u ⟨rfl,h2,h3,h4⟩
    dsimp only at h2
    subst h2
    exact h m h3 h4
  · rintro i ⟨r,m⟩ u _ _ ⟨rfl,h2,h3,h4⟩
    dsimp only at h2 h3 h4
    refine wpS_bind (ych hA hk gs e (by ac_rfl) (by ac_rfl) fun c=>?_)
    cases c
    · exact wpS_pure ⟨rfl,rfl,(by ac_rfl),(by ac_rfl)⟩
    · exact wpS_pure ⟨rfl,rfl,h3,(by ac_rfl)⟩
theorem zgp {st:SortSt} {lo nrem:Nat} {Q:Option Nat→SortSt→Prop} (hk:kindOf st=κ) (gs:∀x∈(arrOf st).toList,g x) (hz:lo+nrem≤(arrOf st).size) (h1:1≤nrem) (h:∀n st',1≤n→n≤nrem→Pm st st'→Q (some n) st'):wpS (model prog w) A E s (countRun' lo nrem) Q st:=by
  refine wpS_bind (ygJ hA hk gs hz Pm.rfl (Nat.le_refl _) h1 fun n n1 n2=>?_)
  refine S_if (fun _=>wpS_pure (h _ _ n1 n2 Pm.rfl)) fun c1=>?_
  have c1':=nbeq c1
  dsimp only at c1'
  refine S_if (fun _=>wpS_bind (ych hA hk gs Pm.rfl (by ac_rfl) (by ac_rfl) fun c=>?_)) fun _=>?_
  cases c
  rotate_left
  exact wpS_pure (h _ _ n1 n2 Pm.rfl)
  have e:Pm st st:=Pm.rfl
  rotate_left
  refine wpS_bind (zfw fun st1 e=>?_)
  all_goals
    refine wpS_bind (wpS_lift (wpAny_rule ⟨rfl,?_⟩))
    refine wpS_bind (ybL (fun i z u=>Pm st u∧z.1=none∧1≤z.2.1∧z.2.1≤i) (fun z u=>Pm st u∧z.1=none∧1≤z.2.1∧z.2.1≤nrem) ⟨e,rfl,(by ac_rfl),Nat.le_refl _⟩ ?_ ?_ ?_)
    · rintro ⟨r,m⟩ u ⟨h1,h2,h3,h4⟩
      dsimp only at h4
      exact ⟨h1,h2,h3,(by ac_rfl)⟩
    · rintro ⟨r,m,q⟩ u ⟨e,h2,h3,h4⟩
      dsimp only at h2 h3 h4
      subst h2
      refine S_if (fun _=>wpS_bind (zfw fun u1 e1=>?_)) fun _=>?_
      · refine wpS_bind (zfw fun u2 e2=>?_)
        refine wpS_bind (ygJ hA hk gs hz ((e.trans e1).trans e2) h3 h4 fun n n1 n2=>?_)
        exact wpS_pure (h _ _ n1 n2 ((e.trans e1).trans e2))
      · refine wpS_bind (zfw fun u2 e2=>?_)
        refine wpS_bind (ygJ hA hk gs hz (e.trans e2) h3 h4 fun n n1 n2=>?_)
        exact wpS_pure (h _ _ n1 n2 (e.trans e2))
    · rintro i ⟨r,m,q⟩ u _ _ ⟨e,h2,h3,h4⟩
      dsimp only at h2 h3 h4
      refine wpS_bind (ych hA hk gs e (by ac_rfl) (by ac_rfl) fun c=>?_)
      refine S_if (fun _=>?_) fun _=>?_
      rotate_left
      · refine wpS_bind (ych hA hk gs e (by ac_rfl) (by ac_rfl) fun c=>?_)
        cases c
        · exact wpS_pure ⟨e,rfl,(by ac_rfl),(by ac_rfl)⟩
        · exact wpS_pure ⟨e,rfl,h3,(by ac_rfl)⟩
      · refine S_if (fun _=>wpS_bind (zfw fun u1 e1=>?_)) fun _=>?_
        · exact wpS_pure ⟨e.trans e1,rfl,(by ac_rfl),(by ac_rfl)⟩
        · exact wpS_pure ⟨e,rfl,(by ac_rfl),(by ac_rfl)⟩
theorem yhf {st:SortSt} {lo n ok:Nat} {Q:Bool→SortSt→Prop} (hk:kindOf st=κ) (gs:∀x∈(arrOf st).toList,g x) (hz:lo+n≤(arrOf st).size) (h:∀st',Pm st st'→Q true st'):wpS (model prog w) A E s (binarySort' lo n ok) Q st:=by
  refine wpS_bind (ybL (fun i z u=>Pm st u∧z.1=none) (fun z u=>Pm st u∧z.1=none) ⟨Pm.rfl,rfl⟩ (fun _ _ x=>x) ?_ ?_)
  · rintro ⟨r,z⟩ u ⟨e,h2⟩
    dsimp only at h2
    subst h2
    exact wpS_pure (h _ e)
  · rintro k ⟨r,z⟩ u k1 k2 ⟨e,h2⟩
    refine wpS_bind (ybL (fun i z u=>Pm st u∧z.1=none∧z.2.2≤k) (fun z u=>Pm st u∧z.1=none) ⟨e,rfl,Nat.le_refl _⟩ ?_ ?_ ?_)
    · rintro z u ⟨h1,h2,_⟩
      exact ⟨h1,h2⟩
    · rintro ⟨r,l,m⟩ u ⟨e,h2⟩
      dsimp only at h2
      subst h2
      exact wpS_bind (yhe fun u1 e1=>wpS_pure ⟨e.trans e1,rfl⟩)
    · rintro i ⟨r,l,m⟩ u _ _ ⟨e,h2,h3⟩
      dsimp only at h2 h3
      refine S_if (fun _=>wpS_pure ⟨e,rfl⟩) fun c1=>?_
      dsimp only at c1
      refine wpS_bind (ych hA hk gs e (by ac_rfl) (by ac_rfl) fun c=>?_)
      cases c
      · exact wpS_pure ⟨e,rfl,h3⟩
      · exact wpS_pure ⟨e,rfl,(by ac_rfl)⟩
end
end L2
end
section
-- text: ExtRw
namespace L2
open PySem PySem.W PySem.Calls PyProof.Rows
def ybn:List (Nat×Nat×Nat)→Nat→Nat→Prop
  | [],a,b=>a=b
  | x::r,a,b=>x.1=a∧1≤x.2.1∧ybn r (a+x.2.1) b
theorem zbT:∀ {u v:List (Nat×Nat×Nat)} {a b:Nat},ybn (u++v) a b↔∃c,ybn u a c∧ybn v c b
  | [],v,a,b=>⟨fun h=>⟨a,rfl,h⟩,fun ⟨c,e,h⟩=>by cases e;exact h⟩
  | x::u,v,a,b=>by
    show (x.1=a∧1≤x.2.1∧ybn (u++v) (a+x.2.1) b)↔∃c,(x.1=a∧1≤x.2.1∧ybn u (a+x.2.1) c)∧ybn v c b
    rw [zbT]
    exact ⟨fun ⟨h1,h2,c,h3,h4⟩=>⟨c,⟨h1,h2,h3⟩,h4⟩,fun ⟨c,⟨h1,h2,h3⟩,h4⟩=>⟨h1,h2,c,h3,h4⟩⟩
theorem yer:∀ {u:List (Nat×Nat×Nat)} {a b:Nat},ybn u a b→a≤b
  | [],a,b,h=>Nat.le_of_eq h
  | x::u,a,b,⟨_,_,h⟩=>Nat.le_trans (Nat.le_add_right _ _) (yer h)
theorem ygC {α:Type} {l u v:List α} {x y z:α} {n:Nat} (e:l=u++x::y::v) (h:u.length=n):(l.set n z).eraseIdx (n+1)=u++z::v:=by
  subst e h
  rw [List.set_append_right _ _ (Nat.le_refl _),List.eraseIdx_append_of_length_le (Nat.le_succ _),Nat.sub_self,show u.length+1-u.length=1 by omega]
  rfl
theorem yfc {p:Array (Nat×Nat×Nat)} {i b:Nat} (h:ybn p.toList 0 b) (hi:i+1<p.size):∃sa na pa sb nb pb,p[i]?=some (sa,na,pa)∧p[i+1]?=some (sb,nb,pb)∧sb=sa+na∧1≤na∧1≤nb∧sb+nb≤b∧ybn ((p.setIfInBounds i (sa,na+nb,pa)).eraseIdxIfInBounds (i+1)).toList 0 b:=by
  have hl:i+1<p.toList.length:=by rw [Array.length_toList];exact hi
  have h1:p.toList=p.toList.take i++p.toList[i]::p.toList[i+1]::p.toList.drop (i+1+1):=by
    rw [←List.drop_eq_getElem_cons hl,←List.drop_eq_getElem_cons (by omega),List.take_append_drop]
  rw [h1,zbT] at h
  obtain ⟨c,h2,h3,h4,h5,h6,h7⟩:=h
  have e0:p[i]?=some p.toList[i]:=by
    rw [Array.getElem?_eq_getElem (by omega)];rfl
  have e1:p[i+1]?=some p.toList[i+1]:=by
    rw [Array.getElem?_eq_getElem hi];rfl
  refine ⟨p.toList[i].1,p.toList[i].2.1,p.toList[i].2.2,p.toList[i+1].1,p.toList[i+1].2.1,p.toList[i+1].2.2,e0,e1,by rw [h5,h3],h4,h6,?_,?_⟩
  · have:=yer h7
    omega
  · rw [Array.toList_eraseIdxIfInBounds,Array.toList_setIfInBounds]
    have hlt:(p.toList.take i).length=i:=by rw [List.length_take];omega
    rw [ygC h1 hlt,zbT]
    exact ⟨c,h2,h3,by dsimp only;omega,by dsimp only;rw [←Nat.add_assoc];exact h7⟩
theorem zdo {f:Nat×Nat×Nat→Nat×Nat×Nat} (hf:∀x,(f x).1=x.1∧(f x).2.1=x.2.1):∀ {l:List (Nat×Nat×Nat)} {i a b:Nat},ybn l a b→ybn (l.modify i f) a b
  | [],i,a,b,h=>by cases i <;> exact h
  | x::l,0,a,b,h=>by
    show (f x).1=a∧1≤(f x).2.1∧ybn l (a+(f x).2.1) b
    rw [(hf x).1,(hf x).2]
    exact h
  | x::l,i+1,a,b,⟨h1,h2,h3⟩=>⟨h1,h2,zdo hf h3⟩
theorem ycP {p:Array (Nat×Nat×Nat)} {a n k:Nat} (h:ybn p.toList 0 a) (hn:1≤n):ybn (p.push (a,n,k)).toList 0 (a+n):=by
  rw [Array.toList_push,zbT]
  exact ⟨a,h,rfl,hn,rfl⟩
theorem zeo {α:Type} (q:Nat):∀(l:List α) (k:Nat) (a:Array α),q+k+l.length≤a.size→((l.zipIdx k).foldl (fun a x=>a.setIfInBounds (q+x.2) x.1) a).toList=a.toList.take (q+k)++l++a.toList.drop (q+k+l.length)
  | [],k,a,_=>by simp
  | x::l,k,a,h=>by
    rw [List.length_cons] at h
    rw [List.zipIdx_cons,List.foldl_cons,zeo q l (k+1) _ (by rw [Array.size_setIfInBounds];omega),Array.toList_setIfInBounds]
    have hl:q+k<a.toList.length:=by rw [Array.length_toList];omega
    rw [show q+(k+1)=q+k+1 by omega,List.length_cons,show q+k+1+l.length=q+k+(l.length+1) by omega]
    rw [List.take_set,List.drop_set_of_lt (by omega),List.take_succ_eq_append_getElem hl,List.set_append_right _ _ (by rw [List.length_take];omega),List.length_take]
    rw [show q+k-min (q+k) a.toList.length=0 by omega]
    simp
theorem zfK {α:Type} {a:Array α} {i j k:Nat} {m:Array α} (h1:i≤j) (h2:j≤k) (h3:k≤a.size) (h:m.toList.Perm ((a.extract i j).toList++(a.extract j k).toList)):((m.toList.zipIdx).foldl (fun a x=>a.setIfInBounds (i+x.2) x.1) a).toList.Perm a.toList:=by
  have hl:m.toList.length=k-i:=by
    rw [h.length_eq,List.length_append,Array.length_toList,Array.length_toList,Array.size_extract,Array.size_extract];omega
  rw [zeo i m.toList 0 a (by omega),hl,show i+0+(k-i)=k by omega,Nat.add_zero]
  have e:a.toList=a.toList.take i++((a.extract i j).toList++(a.extract j k).toList)++a.toList.drop k:=by
    rw [←List.append_assoc,←yep a h1,←yep a h2,List.take_append_drop]
  conv=>rhs;rw [e]
  exact List.Perm.append_right _ (List.Perm.append_left _ h)
section
variable {prog:Program} {w:World} {A:Around} {E:Value→Shared→Prop} {s:Shared} {κ:SortKind}
variable {g:Keyed→Prop} (hA:Answ prog w A s κ g)
include hA
omit hA in
theorem zgw {st x:SortSt} {Q:PUnit→SortSt→Prop} (h:Q ⟨⟩ x):wpS (model prog w) A E s (set x:StateT SortSt Sem PUnit) Q st:=by
  unfold wpS;rw [StateT.run_set];exact wpAny_pure ⟨rfl,h⟩
theorem yeS {st:SortSt} {i b:Nat} {Q:Bool→SortSt→Prop} (hk:kindOf st=κ) (gs:∀x∈(arrOf st).toList,g x) (hf:failedOf st=none) (hp:ybn (pendingOf st).toList 0 b) (hb:b≤(arrOf st).size) (hi:i+1<(pendingOf st).size)
    (h:∀st':SortSt,kindOf st'=κ→failedOf st'=none→(arrOf st').toList.Perm (arrOf st).toList→ybn (pendingOf st').toList 0 b→Q true st'):wpS (model prog w) A E s (mergeAt' i) Q st:=by
  obtain ⟨sa,na,pa,sb,nb,pb,e0,e1,rfl,h1,h2,h3,h4⟩:=yfc hp hi
  refine wpS_bind (wpS_get ?_)
  dsimp only
  rw [show (pendingOf st)[i]?=_ from e0,show (pendingOf st)[i+1]?=_ from e1]
  refine wpS_bind (zgw ?_)
  have r1:sa+na<(arrOf st).size:=by omega
  refine wpS_bind (zaE r1 ?_)
  refine wpS_bind (zbC hA hk (gd gs r1) gs (base:=sa) (n:=na) (hint:=0) (Nat.le_of_lt r1) h1 fun k hk1=>?_)
  refine S_if (fun _=>wpS_pure (h _ hk hf (.refl _) h4)) fun c1=>?_
  have c1':=nbeq c1
  have r2:sa+k+(na-k)-1<(arrOf st).size:=by omega
  refine wpS_bind (zaE r2 ?_)
  refine wpS_bind (zbC hA hk (gd gs r2) gs (base:=sa+na) (n:=nb) (hint:=nb-1) (Nat.le_trans h3 hb) (by omega) fun k2 hk2=>?_)
  refine S_if (fun _=>wpS_pure (h _ hk hf (.refl _) h4)) fun c2=>?_
  have c2':=nbeq c2
  have gx:∀i j,∀x∈((arrOf st).extract i j).toList,g x:=fun i j x hx=>gs x (by
    rw [Array.toList_extract,List.extract_eq_take_drop] at hx
    exact List.mem_of_mem_drop (List.mem_of_mem_take hx))
  have x1:0<((arrOf st).extract (sa+k) (sa+na)).size:=by rw [Array.size_extract];omega
  have x2:0<((arrOf st).extract (sa+na) (sa+na+k2)).size:=by rw [Array.size_extract];omega
  have fin:∀(r:Array Keyed) (st1:SortSt),r.toList.Perm (((arrOf st).extract (sa+k) (sa+na)).toList++((arrOf st).extract (sa+na) (sa+na+k2)).toList)→Sm (SortSt.mk' (kindOf st) (arrOf st) (((pendingOf st).setIfInBounds i (sa,na+nb,pa)).eraseIdxIfInBounds (i+1)) (gallopOf st) (failedOf st)) st1→wpS (model prog w) A E s (pure (failedOf st1).isNone) Q (SortSt.mk' (kindOf st1) ((r.toList.zipIdx).foldl (fun a x=>a.setIfInBounds (sa+k+x.2) x.1) (arrOf st1)) (pendingOf st1) (gallopOf st1) (failedOf st1)):=by
    intro r st1 hr ⟨f1,f2,f3,f4⟩
    rw [show failedOf st1=none from f4.trans hf]
    refine wpS_pure (h _ (f1.trans hk) rfl ?_ ?_)
    · show (List.foldl _ (arrOf st1) _).toList.Perm _
      rw [show arrOf st1=arrOf st from f2]
      exact zfK (by omega) (by omega) (by omega) hr
    · show ybn (pendingOf st1).toList 0 b
      rw [f3]
      exact h4
  refine S_if (fun _=>?_) fun _=>?_
  · refine wpS_bind (yfa hA hk (gx _ _) (gx _ _) x1 x2 fun r st1 hr e=>?_)
    refine wpS_bind (wpS_modify ?_)
    refine wpS_bind (wpS_get ?_)
    exact fin r st1 hr e
  · refine wpS_bind (zfn hA hk (gx _ _) (gx _ _) x1 x2 fun r st1 hr e=>?_)
    refine wpS_bind (wpS_modify ?_)
    refine wpS_bind (wpS_get ?_)
    exact fin r st1 hr e
omit hA in
theorem ygN {c:Prop} [Decidable c] {n:Nat} (h:¬ n≤1):(if c then n-2-1 else n-2)+1<n:=by
  split <;> omega
def Rn (κ:SortKind) (st0:SortSt) (b:Nat) (st:SortSt):Prop:=kindOf st=κ∧failedOf st=none∧(arrOf st).toList.Perm (arrOf st0).toList∧ybn (pendingOf st).toList 0 b∧b≤(arrOf st0).size
theorem ygT {st:SortSt} {Q:Unit→SortSt→Prop} (hk:kindOf st=κ) (gs:∀x∈(arrOf st).toList,g x) (hf:failedOf st=none) (hp:pendingOf st = #[])
    (h:∀st':SortSt,failedOf st'=none→(arrOf st').toList.Perm (arrOf st).toList→Q () st'):wpS (model prog w) A E s sortRuns' Q st:=by
  have merge:∀(b i:Nat) (u:SortSt) {Q:Bool→SortSt→Prop},Rn κ st b u→i+1<(pendingOf u).size→(∀v,Rn κ st b v→Q true v)→wpS (model prog w) A E s (mergeAt' i) Q u:=fun b i u Q R hi k=>yeS hA R.1 (fun x hx=>gs x (R.2.2.1.mem_iff.mp hx)) R.2.1 R.2.2.2.1 (by
      have:=R.2.2.1.length_eq
      rw [Array.length_toList,Array.length_toList] at this
      rw [this]
      exact R.2.2.2.2) hi fun v h1 h2 h3 h4=>k v ⟨h1,h2,h3.trans R.2.2.1,h4,R.2.2.2.2⟩
  refine wpS_bind (wpS_get ?_)
  refine wpS_bind (ybL (fun _ z u=>z.1=none∧Rn κ st z.2 u) (fun z u=>z.1=none∧Rn κ st z.2 u) ⟨rfl,hk,hf,.refl _,?_,Nat.zero_le _⟩ (fun _ _ x=>x) ?_ ?_)
  · rw [hp];rfl
  · rintro ⟨r,lo⟩ u ⟨e1,R⟩
    dsimp only at e1
    subst e1
    refine wpS_bind (ybL (fun _ z u=>z.1=none∧Rn κ st lo u) (fun z u=>z.1=none∧Rn κ st lo u) ⟨rfl,R⟩ (fun _ _ x=>x) ?_ ?_)
    · rintro ⟨r,z⟩ u ⟨e1,R1,R2,R3,R4,R5⟩
      dsimp only at e1
      subst e1
      exact wpS_pure (h _ R2 R3)
    · rintro i ⟨r,z⟩ u _ _ ⟨e1,R⟩
      refine wpS_bind (wpS_get ?_)
      refine S_if (fun _=>wpS_pure ⟨rfl,R⟩) fun c1=>?_
      have c2:¬ (pendingOf u).size≤1:=c1
      refine wpS_bind (merge _ _ _ R ?_ (fun u R=>wpS_pure ⟨rfl,R⟩))
      exact ygN c2
  · rintro i ⟨r,lo⟩ u _ _ ⟨e1,R1,R2,R3,R4,R5⟩
    dsimp only at R4 R5
    refine S_if (fun _=>wpS_pure ⟨rfl,R1,R2,R3,R4,R5⟩) fun c1=>?_
    dsimp only at c1
    have sz:(arrOf u).size=(arrOf st).size:=by
      have:=R3.length_eq
      rwa [Array.length_toList,Array.length_toList] at this
    refine wpS_bind (zgp hA R1 (fun x hx=>gs x (R3.mem_iff.mp hx)) ?_ ?_ fun n u1 n1 n2 e=>?_)
    · show lo+((arrOf st).size-lo)≤(arrOf u).size
      have c2:¬ lo≥(arrOf st).size:=c1
      omega
    · show 1≤(arrOf st).size-lo
      have c2:¬ lo≥(arrOf st).size:=c1
      omega
    have n3:n≤(arrOf st).size-lo:=n2
    have c3:¬ lo≥(arrOf st).size:=c1
    have U:Rn κ st lo u1:=⟨e.1.trans R1,e.2.2.1.trans R2,e.2.2.2.trans R3,by rw [e.2.1];exact R4,R5⟩
    refine S_if (fun c2=>?_) fun _=>?_
    refine wpS_bind (wpS_lift (wpAny_rule ⟨rfl,?_⟩))
    refine wpS_bind (yhf hA U.1 (fun x hx=>gs x (U.2.2.1.mem_iff.mp hx)) ?_ fun v e2=>?_)
    · rw [e.size,sz]
      show lo+min ((arrOf st).size-lo) _≤_
      omega
    have V:Rn κ st lo v:=⟨e2.1.trans U.1,e2.2.2.1.trans U.2.1,e2.2.2.2.trans U.2.2.1,by rw [e2.2.1];exact U.2.2.2.1,R5⟩
    have m1:1≤min ((arrOf st).size-lo) (minRun' (arrOf st).size (arrOf st).size 0):=by
      have c2':n<minRun' (arrOf st).size (arrOf st).size 0:=c2
      omega
    have m2:lo+min ((arrOf st).size-lo) (minRun' (arrOf st).size (arrOf st).size 0)≤(arrOf st).size:=by omega
    rotate_left
    obtain ⟨v,hv⟩:∃v,v=u1:=⟨_,rfl⟩
    rw [←hv] at U ⊢
    have V:=U
    have m1:=n1
    have m2:lo+n≤(arrOf st).size:=by omega
    all_goals
      refine wpS_bind (wpS_get ?_)
      generalize hb:(pendingOf v).back?=o
      rcases o with _ | ⟨s1,n1,p1⟩
      · refine wpS_bind (wpS_modify (wpS_pure ⟨rfl,V.1,V.2.1,V.2.2.1,ycP V.2.2.2.1 m1,m2⟩))
      · refine wpS_bind (ybL (fun _ z u=>z.1=none∧Rn κ st lo u) (fun z u=>z.1=none∧Rn κ st lo u) ⟨rfl,V⟩ (fun _ _ x=>x) ?_ ?_)
        · rintro ⟨r,z⟩ u ⟨e1,V⟩
          dsimp only at e1
          subst e1
          refine wpS_bind (wpS_modify ?_)
          refine wpS_bind (wpS_modify (wpS_pure ⟨rfl,V.1,V.2.1,V.2.2.1,ycP ?_ m1,m2⟩))
          show ybn ((pendingOf u).modify _ _).toList 0 lo
          rw [Array.toList_modify]
          refine zdo ?_ V.2.2.2.1
          exact fun x=>⟨rfl,rfl⟩
        · rintro i ⟨r,z⟩ u _ _ ⟨e1,V⟩
          refine wpS_bind (wpS_get ?_)
          dsimp only
          generalize hm:(if (pendingOf u).size>1 then (pendingOf u)[(pendingOf u).size-2]? else none)=o
          rcases o with _ | ⟨s2,n2,p2⟩
          · exact wpS_pure ⟨rfl,V⟩
          · have hs:(pendingOf u).size>1:=Decidable.byContradiction fun c=>by rw [if_neg c] at hm;cases hm
            exact S_if (fun _=>wpS_pure ⟨rfl,V⟩) fun _=>wpS_bind (merge _ _ _ V (show (pendingOf u).size-2+1<(pendingOf u).size by omega) fun u V=>wpS_pure ⟨rfl,V⟩)
end
end L2
end
section
-- text: ExtRx
namespace L2
open PySem PySem.Spec PySem.W PySem.Calls PyProof.Rows
section
variable {prog:Program} {w:World} {A:Around} {E:Value→Shared→Prop} {s:Shared} {vs:List Value}
def ybl (h h':Heap):Prop:=∀(b:Addr) (o:Obj),h.get? b=some o→h'.get? b=some o
theorem ybl.trans {a b c:Heap} (x:ybl a b) (y:ybl b c):ybl a c:=fun b o e=>y b o (x b o e)
theorem ybl.push (h:Heap) (o:Obj):ybl h (h.push o):=fun _ _ e=>Heap.get?_push_of_some _ e
theorem zeh {α:Type} (vs:List α):(vs.toArray.zip vs.toArray).toList=vs.map fun v=>(v,v):=by
  rw [Array.toList_zip]
  show vs.zip vs=_
  induction vs with
  | nil=>rfl
  | cons x l ih=>rw [List.zip_cons_cons,ih];rfl
theorem zda {h₀:Heap} {a:Addr} {n:Nat} {P:PySem.Fin→Shared→Prop} (ho:s.heap.get? a=some (seqObj "list" vs.toArray n)) (hz:vs.length≤sizeLine) (k0:ybl h₀ s.heap) (ha:h₀.get? a=none)
    (ask:∀h':Heap,ybl h₀ h'→2≤vs.length→wpAny (model prog w) A (keyKind' vs.toArray) (fun κ s'=>s'={ s with heap:=h' }∧∃g:Keyed→Prop,(∀v∈vs,g (v,v))∧Answ prog w A { s with heap:=h' } κ g) (fun _ _=>False) { s with heap:=h' })
    (fin:∀(es:List Value) (h':Heap) (c:Nat),ybl h₀ h'→h'.get? a=some (seqObj "list" es.toArray c)→es.Perm vs→P (.done (.ret .none)) { s with heap:=h' }) :
    wpAny (model prog w) A (Builtin.«list.sort» ⟨[.ref a],[]⟩) P E s:=by
  have hs:vs.toArray.size≤sizeLine:=by rw [List.size_toArray];exact hz
  obtain ⟨c1,o1⟩:∃c,(s.heap.update a (Obj.mapSeq fun _=>(#[]:Array Value))).get? a=some (seqObj "list" #[] c):=⟨_,get?_update_seq ho fun _=>#[]⟩
  have ku:∀(h:Heap) (f:Obj→Obj),ybl h₀ h→ybl h₀ (h.update a f):=fun h f k b o e=>by
    rw [Heap.get?_update_ne _ _ _ _ (fun q=>by rw [q,ha] at e;cases e)]
    exact k b o e
  rw [list_sort_plain]
  refine wpAny_bind (listItems_at ho rfl (wpAny_bind (listUpdate_at ho rfl ?_ hs (Nat.zero_le _))))
  refine wpAny_bind (seqEpoch_at o1 rfl (wpAny_bind (wpAny_newTuple ?_ hz)))
  refine wpAny_bind (wpAny_newList (wpAny_holding ?_) (Nat.zero_le _))
  obtain ⟨h1,e1⟩:∃h1,h1=((s.heap.update a (Obj.mapSeq fun _=>(#[]:Array Value))).push (seqObj "tuple" vs.toArray 0)).push (seqObj "list" #[] 0):=⟨_,rfl⟩
  have k1:ybl h₀ h1:=by rw [e1];exact ((ku _ _ k0).trans (ybl.push _ _)).trans (ybl.push _ _)
  have o2:h1.get? a=some (seqObj "list" #[] c1):=by rw [e1];exact ybl.push _ _ _ _ (ybl.push _ _ _ _ o1)
  have last:∀ {out:Array Value},out.toList.Perm vs→P (.done (.ret .none)) { s with heap:=h1.update a (Obj.mapSeq fun _=>out) }:=fun {out} hp=>by
    refine fin out.toList _ _ (ku _ _ k1) (get?_update_seq o2 fun _=>out) hp
  show wpAny (model prog w) A _ P E { s with heap:=((s.heap.update a (Obj.mapSeq fun _=>(#[]:Array Value))).push (seqObj "tuple" vs.toArray 0)).push (seqObj "list" #[] 0) }
  rw [←e1]
  have zp:∀ {st:SortSt},(arrOf st).toList.Perm ((vs.toArray.zip vs.toArray).toList)→((arrOf st).map (·.2)).toList.Perm vs:=fun {st} hp=>by
    have:=hp.map (·.2)
    rw [zeh,List.map_map] at this
    rw [Array.toList_map]
    exact this.trans (by show ((vs.map id).Perm vs);rw [List.map_id])
  have zs:∀ {out:Array Value},out.toList.Perm vs→out.size≤sizeLine+1:=fun hp=>by
    have:=hp.length_eq
    rw [Array.length_toList] at this
    omega
  dsimp only
  by_cases c2:vs.toArray.size<2
  · rw [if_pos c2,if_pos c2]
    refine wpAny_bind (wpAny_pure (wpAny_bind ?_))
    rw [StateT.run_pure]
    refine wpAny_pure ?_
    have hp:=zp (st:=SortSt.mk' general' (vs.toArray.zip vs.toArray) #[] 7 none) (.refl _)
    refine wpAny_bind (seqEpoch_at o2 rfl (wpAny_bind (listUpdate_at o2 rfl ?_ (Nat.zero_le _) (zs hp))))
    simp only [bne_self_eq_false,Bool.false_eq_true,if_false]
    exact wpAny_pure (last hp)
  · rw [if_neg c2,if_neg c2]
    rw [List.size_toArray] at c2
    refine wpAny_bind (wpAny_mono (ask h1 k1 (by omega)) (fun κ s' hk=>?_) fun _ _ x=>x.elim)
    obtain ⟨rfl,g,hg,hA⟩:=hk
    refine wpAny_bind (wpAny_mono (ygT (E:=fun _ _=>False) (st:=SortSt.mk' κ (vs.toArray.zip vs.toArray) #[] 7 none) (Q:=fun _ st=>failedOf st=none∧(arrOf st).toList.Perm (vs.toArray.zip vs.toArray).toList) hA rfl ?_ rfl rfl fun st h1 h2=>⟨h1,h2⟩) ?_ fun _ _ x=>x.elim)
    · intro x hx
      rw [show arrOf (SortSt.mk' κ (vs.toArray.zip vs.toArray) #[] 7 none)=vs.toArray.zip vs.toArray from rfl,zeh] at hx
      obtain ⟨v,hv,rfl⟩:=List.mem_map.mp hx
      exact hg v hv
    rintro ⟨⟨⟩,st⟩ s' ⟨rfl,hf,hp⟩
    have hp:=zp hp
    dsimp only
    refine wpAny_bind (seqEpoch_at o2 rfl (wpAny_bind (listUpdate_at o2 rfl ?_ (Nat.zero_le _) (zs hp))))
    rw [show failedOf st=none from hf]
    simp only [bne_self_eq_false,Bool.false_eq_true,if_false]
    exact wpAny_pure (last hp)
theorem yew {l:Addr} {Q:Value→Shared→Prop} (hl:s.heap.IsList l vs.toArray) (hz:vs.length≤sizeLine)
    (ask:∀h':Heap,ybl s.heap h'→2≤vs.length→wpAny (model prog w) A.in1.in1 (keyKind' vs.toArray) (fun κ s'=>s'={ s with heap:=h' }∧∃g:Keyed→Prop,(∀v∈vs,g (v,v))∧Answ prog w A.in1.in1 { s with heap:=h' } κ g) (fun _ _=>False) { s with heap:=h' })
    (fin:∀(D:Addr) (es:List Value) (h':Heap) (c:Nat),s.heap.objs.size≤D→ybl s.heap h'→h'.get? D=some (seqObj "list" es.toArray c)→es.Perm vs→Q (.ref D) { s with heap:=h' }) :
    wpAny (model prog w) A (call (.builtin "sorted") [.ref l]) Q E s:=by
  apply call_function_entry kind_sorted plain_sorted entry_sorted (args_sorted1 _)
  refine wpAny_bind (m:=checkCount "sorted" 1 1 _) (wpAny_pure (wpAny_bind (collect_list hl (wpAny_bind (wpAny_newList ?_ hz)) hz)))
  obtain ⟨h1,e1⟩:∃h1,h1=(s.heap.push (seqObj "list" #[] 0)).update s.heap.objs.size (Obj.mapSeq (·++vs.toArray)):=⟨_,rfl⟩
  have z1:h1.objs.size=s.heap.objs.size+1:=by rw [e1,Heap.size_update,size_push']
  have k1:ybl s.heap h1:=fun b o e=>by
    rw [e1,Heap.get?_update_ne _ _ _ _ (Nat.ne_of_lt (Heap.lt_size e)),Heap.get?_push_ne _ _ _ (Nat.ne_of_lt (Heap.lt_size e))]
    exact e
  show wpAny _ _ _ _ _ { s with heap:=((s.heap.push (seqObj "list" #[] 0)).update s.heap.objs.size (Obj.mapSeq (·++vs.toArray))).push (seqObj "list" vs.toArray 0) }
  rw [←e1]
  have o2:(h1.push (seqObj "list" vs.toArray 0)).get? h1.objs.size=some (seqObj "list" vs.toArray 0):=Heap.get?_push_size _ rfl
  refine wpAny_bind (wpAny_holding (wpAny_call_entry slot_list_sort ⟨_,o2,rfl⟩ entry_list_sort ?_ (args_list_sort _)))
  have z2:s.heap.objs.size≤h1.objs.size:=by omega
  refine zda (s:={ s with heap:=h1.push (seqObj "list" vs.toArray 0) }) (h₀:=s.heap) o2 hz (k1.trans (ybl.push _ _)) (Heap.get?_none_of_le z2) (fun h' k=>ask h' k) fun es h' c k e p=>⟨_,rfl,wpAny_pure ⟨_,rfl,fin _ es h' c z2 k e p⟩⟩
end
theorem zgW:∀ {ds:List Addr} {us:List Value},Vals (ds.map V.ref) us→us=ds.map Value.ref
  | [],_,.nil=>rfl
  | d::ds,_,.cons r t=>by cases r;rw [zgW t];rfl
theorem ygU:∀ {ds:List Addr},Vals (ds.map V.ref) (ds.map Value.ref)
  | []=>.nil
  | d::ds=>.cons rfl ygU
theorem ybO:∀ {es ds:List Value},es.Perm ds→∀ {l:List Addr},ds=l.map Value.ref→∃m:List Addr,es=m.map Value.ref∧m.Perm l
  | _,_,.nil,l,e=>by cases l with|nil=>exact ⟨[],rfl,.nil⟩|cons _ _=>cases e
  | _,_,.cons x p,l,e=>by
    cases l with
    | nil=>cases e
    | cons y l =>
      injection e with e1 e2
      obtain ⟨m,h1,h2⟩:=ybO p e2
      exact ⟨y::m,by rw [e1,h1];rfl,h2.cons _⟩
  | _,_,.swap x y r,l,e=>by
    rcases l with _ | ⟨u,_ | ⟨v,l⟩⟩
    · cases e
    · cases e
    · injection e with e1 e2
      injection e2 with e2 e3
      exact ⟨v::u::l,by rw [e1,e2,e3];rfl,.swap ..⟩
  | _,_,.trans p q,l,e=>by
    obtain ⟨m,h1,h2⟩:=ybO q e
    obtain ⟨m',h3,h4⟩:=ybO p h1
    exact ⟨m',h3,h4.trans h2⟩
def IntV (v:Value):Prop:=∃i t,v = .int i t
theorem zfg {prog:Program} {w:World} {A:Around} {b fin:Bool} {Q:Bool→Shared→Prop} {s:Shared} (q:∀c,Q c s):∀(l:List (Value×Value)) (i:Nat),(∀p∈l,IntV p.1∧IntV p.2)→KatLex prog w A b fin Q l i s
  | [],_,_=>q _
  | (x,y)::l,i,h=>by
    obtain ⟨⟨a,t,rfl⟩,⟨c,u,rfl⟩⟩:=h _ (List.mem_cons_self ..)
    refine kat_cons (wpAny_eqBool_int ?_)
    refine kat_go (fun _=>kat_yes (zfg q l (i+1) fun p hp=>h p (List.mem_cons_of_mem _ hp))) (fun _=>kat_no ?_)
    cases (b&&i==0)
    · exact kat_one _ _ (P.lt_int (q _))
    · exact oneLt_int (q _)
section
variable {X:Cx}
theorem yfU {K:PySem.W.Frag} {tg l:Expr} {tl:TE} (h:X.K=K) (hl:PE X l tl):PI X tg l (zgj K tl):=h ▸ zbk hl
def zgS (K:PySem.W.Frag):List V→Hp→VK→Prop:=fun xs H Q=>∃(a:Addr) (ds:List Addr),xs=[.ref a]∧SqL K H a (ds.map V.ref)∧(∀d∈ds,∃rs:List Int,0<rs.length∧SqT K H d (rs.map V.int))∧
  ∀(l:Addr) (es:List Addr),H l=none→es.Perm ds→Q (.ref l) (upd H l (.lst (es.map V.ref)))
theorem ydx:∀ {ns:List Int} {us:List Value},Vals (ns.map V.int) us→∀v∈us,IntV v
  | [],_,.nil=>fun v hv=>by cases hv
  | n::ns,_,.cons r t=>fun v hv=>by
    rcases List.mem_cons.mp hv with rfl|hv
    · obtain ⟨t,e⟩:=r;exact ⟨n,t,e⟩
    · exact ydx t v hv
theorem ydv:zbG X (.builtin "sorted") (zgS X.K):=by
  intro pins s σ H xs us Q I r h
  obtain ⟨a,ds,rfl,ha,hd,q⟩:=h
  obtain ⟨u,rfl,rx⟩:=zcv r
  cases rx
  obtain ⟨its,r1,p1,z1⟩:=I.list ha
  have e:=zgW r1
  subst e
  rw [List.length_map] at z1
  refine yew p1.isList (by rw [List.length_map];exact z1) (fun h' k h2=>?_) fun D es h' c hD k e p=>?_
  · have hT:∀d∈ds,∃(o:Obj) (us:List Value) (n:Nat),h'.get? d=some o∧o.cls = .type "tuple"∧o.data = .seq us.toArray n∧0<us.length∧∀v∈us,IntV v:=fun d hdd=>by
      obtain ⟨rs,h0,hs⟩:=hd d hdd
      obtain ⟨us,rv,⟨o,e,c,n,dt⟩,_⟩:=I.tuple hs
      have hl:=rv.length
      rw [List.length_map] at hl
      exact ⟨o,us,n,k d o e,c,dt,by omega,ydx rv⟩
    have hK:∀l:List Addr,(∀d∈l,d∈ds)→∃fs:List Value,KatTups h' (l.map Value.ref) fs∧fs.length=l.length∧∀v∈fs,IntV v:=by
      intro l
      induction l with
      | nil=>exact fun _=>⟨[],trivial,rfl,fun v hv=>by cases hv⟩
      | cons d l ih =>
        intro hl
        obtain ⟨fs,k1,k2,k3⟩:=ih fun x hx=>hl x (List.mem_cons_of_mem _ hx)
        obtain ⟨o,us,n,e,c,dt,h0,hv⟩:=hT d (hl d (List.mem_cons_self ..))
        rcases us with _ | ⟨f,us⟩
        · cases h0
        · exact ⟨f::fs,KatTups.cons e c dt (by simp) k1,by simp [k2],fun v hv'=>by
            rcases List.mem_cons.mp hv' with rfl|hv'
            · exact hv _ (List.mem_cons_self ..)
            · exact k3 v hv'⟩
    obtain ⟨fs,k1,k2,k3⟩:=hK ds fun _ h=>h
    rw [List.length_map] at h2
    refine kat_kind (T:=.type "int") k1 (by omega) (fun v hv=>?_) rfl ⟨rfl,fun x=>∃d∈ds,x.1 = .ref d,fun v hv=>?_,?_⟩
    · obtain ⟨i,t,rfl⟩:=k3 v hv
      exact Looks.of_pure rfl
    · obtain ⟨d,hd,e⟩:=List.mem_map.mp hv
      exact ⟨d,hd,e.symm⟩
    · rintro ⟨x,x'⟩ ⟨y,y'⟩ C ⟨d1,m1,e1⟩ ⟨d2,m2,e2⟩ hC
      dsimp only at e1 e2
      subst e1 e2
      obtain ⟨o1,us1,n1,e1,c1,q1,_,v1⟩:=hT d1 m1
      obtain ⟨o2,us2,n2,e2,c2,q2,_,v2⟩:=hT d2 m2
      refine kat_lt e1 q1 e2 q2 (zfg (fun c=>hC c) _ _ fun p hp=>?_)
      obtain ⟨x,y⟩:=p
      have:=List.of_mem_zip hp
      exact ⟨v1 _ (by simpa using this.1),v2 _ (by simpa using this.2)⟩
  · obtain ⟨m,rfl,pm⟩:=ybO p rfl
    refine ⟨.ref D,_,I.laid (t':=s.toks) (o:=.lst (m.map V.ref)) k hD ⟨?_,m.map Value.ref,c,ygU,e⟩,rfl,q _ _ (I.hok.fresh hD) pm⟩
    rw [List.length_map,pm.length_eq]
    exact z1
end
end L2
end
section
-- text: P1
namespace My
open PySem L2 Dg
def top (i:Nat):Stmt:=PySem.Challenge.pw_roundwords_k22_too_many_words.main.body.getD i (.Pass ⟨0,0,0,0⟩)
abbrev yay:Stmt:=top 1
abbrev zaG:Stmt:=top 10
abbrev zcS:Stmt:=top 11
abbrev zaH:Stmt:=top 12
abbrev ybY:Stmt:=top 13
abbrev ybC:Stmt:=top 14
abbrev zb3:Stmt:=top 15
abbrev yaz:Stmt:=top 16
abbrev zcJ:Stmt:=top 17
abbrev ybZ:Stmt:=top 18
abbrev ya7:Stmt:=top 19
abbrev ybb:Stmt:=top 21
abbrev zaX:Stmt:=top 23
abbrev zaD:Stmt:=top 24
abbrev zbn:Stmt:=top 26
abbrev ybk:Stmt:=top 27
abbrev yaX:Stmt:=top 28
abbrev ya8:Stmt:=top 29
abbrev ybF:Stmt:=top 31
abbrev zaA:Stmt:=top 34
abbrev yb3:Stmt:=top 35
abbrev ycN:Stmt:=top 36
abbrev za9:Stmt:=top 37
abbrev yci:Stmt:=top 38
abbrev zbw:Stmt:=top 39
abbrev yaP:Stmt:=top 41
abbrev yaW:Stmt:=top 42
abbrev yaG:Stmt:=top 43
abbrev yaI:Stmt:=top 44
abbrev zaJ:Stmt:=top 45
abbrev zaz:Stmt:=top 46
abbrev yaw:Stmt:=top 47
abbrev zaF:Stmt:=top 48
abbrev yaE:Stmt:=top 49
abbrev zaP:Stmt:=top 50
abbrev zaS:Stmt:=top 51
abbrev yaV:Stmt:=top 52
abbrev zar:Stmt:=top 53
abbrev zaQ:Stmt:=top 54
abbrev zaV:Stmt:=top 55
abbrev zdg:Stmt:=top 56
def yge:List Str:=["range","len","abs","min","max","all","any","isinstance","int","bool","tuple","list","zip","enumerate","repr","dict","reversed","sorted","sum","set","str"]
abbrev Bl (mg:Str→Option Value):Prop:=∀x∈yge,mg x=none
def Fld (K:PySem.W.Frag) (H:Hp) (a:Addr) (p m t:Nat):Prop:=SqT K H a [.int p,.int m,.int t]
theorem Same.tup {K:PySem.W.Frag} {H H':Hp} {a:Addr} {xs:List V} (e:Same H H') (h:SqT K H a xs):SqT K H' a xs:=by
  rcases h with (h | ⟨o,h⟩)|h
  · exact .inl (.inl (e _ _ h))
  · exact .inl (.inr ⟨o,e _ _ h⟩)
  · exact .inr h
def mI (σ:St) (i:Nat):Nat:=match σ[i]? with
  | some (some (.int n))=>n.toNat
  | _=>0
local macro_rules | `(tactic| walk_at "rd") => `(tactic| repeat (first | refine ⟨_, rfl, ?_⟩ | refine ⟨_, _, rfl, rfl, ?_⟩))
theorem zf8 {t u:TT} {σ:St} {H:Hp} {Q:Bool→Hp→Prop} {b1 b2:Bool} (h1:∀Q:Bool→Hp→Prop,Q b1 H→t σ H Q) (h2:∀Q:Bool→Hp→Prop,Q b2 H→u σ H Q) (q:Q (b1||b2) H):tOr t u σ H Q:=by
  refine h1 _ ?_
  cases b1
  · exact h2 _ q
  · exact q
theorem ygE {t u:TT} {σ:St} {H:Hp} {Q:Bool→Hp→Prop} {b1 b2:Bool} (h1:∀Q:Bool→Hp→Prop,Q b1 H→t σ H Q) (h2:b1=true→∀Q:Bool→Hp→Prop,Q b2 H→u σ H Q) (q:Q (b1&&b2) H):tAnd t u σ H Q:=by
  refine h1 _ ?_
  cases b1
  · exact q
  · exact h2 rfl _ q
theorem yc4 {X:Cx} {st:Stmt}:PS X st (fun _ _ _=>False):=fun _ _ _ _ _ _ h=>h.elim
section
variable {P:Program} {w:World} {K:PySem.W.Frag} {mg:Str→Option Value} {base:Heap} {f:Addr} {fd:FuncData}
def zb0 (K:PySem.W.Frag):Sp:=fun vs H Q _=>∃(a:Addr) (p m t x y:Nat),vs=[.ref a,.int x,.int y]∧Fld K H a p m t∧2≤p∧p≤64∧∀r:Nat,(∀i,dg p i r=(dg p i x+dg p i y)%p)→Q (.int r) H
theorem zbx:yaj ["field","one","other","p","total","unit"] ["field","one","other"] (zad zcS):=⟨rfl,rfl,rfl,by decide +kernel,rfl,by decide +kernel,by decide +kernel⟩
theorem ygD (B:Bl mg) (F:Fun K "plus" "plus" zcS f fd):FnOk P w K mg base CX0 1 f fd ["field","one","other"] (zb0 K):=by
  refine F.ok zbx (fun vs H Q E h=>?_) (fun cdv A outer s H vs Q E hr h=>?_)
  · obtain ⟨a,p,m,t,x,y,rfl,_⟩:=h;rfl
  obtain ⟨a,p,m,t,x,y,rfl,hF,hp,hp2,q⟩:=h
  refine ⟨_,(@yaa _ _ _ _ _ (@yaf _ _ 3 _ _ _ _ zbx.nd rfl (Or.inl rfl) (@zao _ _ _ _ _ _ _ yau (pv 0) yac (fun _ _=>rfl)) ⋯ (by trivial)) (@yaa _ _ _ _ _ (@yaf _ _ 4 _ _ _ _ zbx.nd rfl (Or.inl rfl) yac ⋯ (by trivial)) (@yaa _ _ _ _ _ (@yaf _ _ 5 _ _ _ _ zbx.nd rfl (Or.inl rfl) yac ⋯ (by trivial)) (@yaa _ _ _ _ _ (@yaM _ _ _ _ _ _ PassesOwn.never (@PW.pt _ _ _ (@zfk _ _ _ _ _ _ _ (@zaj _ _ _ _ _ _ _ _ zbJ (pv 1) yac (zam _)) (@zdt _ _ _ _ (@zaj _ _ _ _ _ _ _ _ zbJ (pv 2) yac (zam _))))) (@yaa _ _ _ _ _ (@ybt _ _ 4 _ _ _ _ _ _ zbx.nd rfl (Or.inl rfl) (@yag _ _ _ _ _ _ _ _ ya4 (@yag _ _ _ _ _ _ _ _ yaB (@yag _ _ _ _ _ _ _ _ yas (pv 1) (pv 2)) (pv 3)) (pv 5)) ydO (by trivial)) (@yaa _ _ _ _ _ (@ybt _ _ 1 _ _ _ _ _ _ zbx.nd rfl (Or.inl rfl) (pv 3) zcu (by trivial)) (@yaa _ _ _ _ _ (@ybt _ _ 2 _ _ _ _ _ _ zbx.nd rfl (Or.inl rfl) (pv 3) zcu (by trivial)) (@zae _ _ _ (@ybt _ _ 5 _ _ _ _ _ _ zbx.nd rfl (Or.inl rfl) (pv 3) ydK (by trivial))))))) (@zae _ _ _ (@yal _ _ _ _ (pv 4))))))),?_⟩
  refine ⟨_,rfl,a,_,_,_,rfl,rfl,hF,rfl,?_⟩
  refine zaN (fun σ H'=>H'=H∧∃(k o u tt:Nat),σ=[some (.ref a),some (.int o),some (.int u),some (.int p),some (.int tt),some (.int ((p^k:Nat):Int))]∧o=x/p^k∧u=y/p^k∧tt<p^k∧∀i,i<k→dg p i tt=(dg p i x+dg p i y)%p)
    (fun σ _=>mI σ 1+mI σ 2) ⟨rfl,0,x,y,0,rfl,by simp,by simp,by simp,fun i hi=>absurd hi (Nat.not_lt_zero _)⟩ ?_
  rintro σ H' ⟨rfl,k,o,u,tt,rfl,ho,hu,ht,hd⟩
  have pk:0<p^k:=Nat.pow_pos (by omega)
  refine zf8 (b1:=decide ((0:Int)<o)) (b2:=decide ((0:Int)<u)) (fun Q q=>⟨_,rfl,_,_,rfl,rfl,_,rfl,q⟩) (fun Q q=>⟨_,rfl,_,_,rfl,rfl,_,rfl,q⟩) ?_
  refine ite2 (fun c=>?_) (fun c=>?_)
  · simp only [Bool.or_eq_true,decide_eq_true_eq] at c
    refine ⟨fun σ' H''=>H''=H'∧σ'=[some (.ref a),some (.int ((o/p:Nat):Int)),some (.int ((u/p:Nat):Int)),some (.int p),some (.int ((tt+(o+u)%p*p^k:Nat):Int)),some (.int ((p^k*p:Nat):Int))],?_,?_⟩
    · rintro σ' H'' ⟨rfl,rfl⟩
      have l1:o/p≤o:=Nat.div_le_self _ _
      have l2:u/p≤u:=Nat.div_le_self _ _
      have l3:o/p<o∨u/p<u:=by
        rcases c with c|c
        · exact .inl (Nat.div_lt_self (by omega) (by omega))
        · exact .inr (Nat.div_lt_self (by omega) (by omega))
      refine ⟨_,?_,rfl,rfl,k+1,o/p,u/p,tt+(o+u)%p*p^k,rfl,?_,?_,?_,fun i hi=>?_⟩
      · show o/p+u/p<o+u;omega
      · rw [ho,Nat.pow_succ,Nat.div_div_eq_div_mul]
      · rw [hu,Nat.pow_succ,Nat.div_div_eq_div_mul]
      · exact zgb ht (Nat.mod_lt _ (by omega))
      · rw [zgf hp ht (Nat.mod_lt _ (by omega))]
        by_cases e:i=k
        · rw [if_pos e,ho,hu,e];unfold dg;rw [Nat.add_mod]
        · rw [if_neg e];exact hd i (by omega)
    · walk_at "rd"
      refine ⟨by show (0:Int)<p;omega,?_⟩
      walk_at "rd"
      have hm:(o+u)%p<p:=Nat.mod_lt _ (by omega)
      refine ⟨.inl ⟨by show -(2^64:Int)<(((o+u)%p:Nat):Int);omega,by show (((o+u)%p:Nat):Int)<2^64;omega⟩,?_⟩
      walk_at "rd"
      refine ⟨⟨by show (0:Int)<p;omega,by show (p:Int)<2^64;omega⟩,?_⟩
      walk_at "rd"
      refine ⟨⟨by show (0:Int)<p;omega,by show (p:Int)<2^64;omega⟩,?_⟩
      walk_at "rd"
      refine ⟨.inr ⟨by show -(2^64:Int)<p;omega,by show (p:Int)<2^64;omega⟩,?_⟩
      exact ⟨rfl,rfl⟩
  · simp only [Bool.or_eq_true,decide_eq_true_eq,not_or] at c
    refine ⟨_,rfl,q tt fun i=>?_⟩
    by_cases e:i<k
    · exact hd i e
    · have hx:x<p^k:=by
        rcases Nat.lt_or_ge x (p^k) with h|h
        · exact h
        · have:=Nat.div_pos h pk;omega
      have hy:y<p^k:=by
        rcases Nat.lt_or_ge y (p^k) with h|h
        · exact h
        · have:=Nat.div_pos h pk;omega
      rw [zas hp ht (by omega),zas hp hx (by omega),zas hp hy (by omega)]
      simp
def yaY (K:PySem.W.Frag):Sp:=fun vs H Q _=>∃(a:Addr) (p m t d x:Nat),vs=[.ref a,.int d,.int x]∧Fld K H a p m t∧2≤p∧p≤64∧d<2^64∧∀r:Nat,(∀i,dg p i r=d*dg p i x%p)→Q (.int r) H
theorem zax:yaj ["field","digit","one","p","total","unit"] ["field","digit","one"] (zad zaH):=⟨rfl,rfl,rfl,by decide +kernel,rfl,by decide +kernel,by decide +kernel⟩
theorem zcF (B:Bl mg) (F:Fun K "digit_times" "digit_times" zaH f fd):FnOk P w K mg base CX0 1 f fd ["field","digit","one"] (yaY K):=by
  refine F.ok zax (fun vs H Q E h=>?_) (fun cdv A outer s H vs Q E hr h=>?_)
  · obtain ⟨a,p,m,t,x,y,rfl,_⟩:=h;rfl
  obtain ⟨a,p,m,t,d,x,rfl,hF,hp,hp2,hd2,q⟩:=h
  refine ⟨_,(@yaa _ _ _ _ _ (@yaf _ _ 3 _ _ _ _ zax.nd rfl (Or.inl rfl) (@zao _ _ _ _ _ _ _ yau (pv 0) yac (fun _ _=>rfl)) ⋯ (by trivial)) (@yaa _ _ _ _ _ (@yaf _ _ 4 _ _ _ _ zax.nd rfl (Or.inl rfl) yac ⋯ (by trivial)) (@yaa _ _ _ _ _ (@yaf _ _ 5 _ _ _ _ zax.nd rfl (Or.inl rfl) yac ⋯ (by trivial)) (@yaa _ _ _ _ _ (@yaM _ _ _ _ _ _ PassesOwn.never (@zaj _ _ _ _ _ _ _ _ zbJ (pv 2) yac (zam _)) (@yaa _ _ _ _ _ (@ybt _ _ 4 _ _ _ _ _ _ zax.nd rfl (Or.inl rfl) (@yag _ _ _ _ _ _ _ _ ya4 (@yag _ _ _ _ _ _ _ _ yaB (@yag _ _ _ _ _ _ _ _ ya4 (pv 1) (pv 2)) (pv 3)) (pv 5)) ydO (by trivial)) (@yaa _ _ _ _ _ (@ybt _ _ 2 _ _ _ _ _ _ zax.nd rfl (Or.inl rfl) (pv 3) zcu (by trivial)) (@zae _ _ _ (@ybt _ _ 5 _ _ _ _ _ _ zax.nd rfl (Or.inl rfl) (pv 3) ydK (by trivial)))))) (@zae _ _ _ (@yal _ _ _ _ (pv 4))))))),?_⟩
  refine ⟨_,rfl,a,_,_,_,rfl,rfl,hF,rfl,?_⟩
  refine zaN (fun σ H'=>H'=H∧∃(k o tt:Nat),σ=[some (.ref a),some (.int d),some (.int o),some (.int p),some (.int tt),some (.int ((p^k:Nat):Int))]∧o=x/p^k∧tt<p^k∧∀i,i<k→dg p i tt=d*dg p i x%p)
    (fun σ _=>mI σ 2) ⟨rfl,0,x,0,rfl,by simp,by simp,fun i hi=>absurd hi (Nat.not_lt_zero _)⟩ ?_
  rintro σ H' ⟨rfl,k,o,tt,rfl,ho,ht,hd⟩
  have pk:0<p^k:=Nat.pow_pos (by omega)
  walk_at "rd"
  refine ite2 (fun c=>?_) (fun c=>?_)
  · have c':0<o:=by have:=of_decide_eq_true c;omega
    refine ⟨fun σ' H''=>H''=H'∧σ'=[some (.ref a),some (.int d),some (.int ((o/p:Nat):Int)),some (.int p),some (.int ((tt+d*o%p*p^k:Nat):Int)),some (.int ((p^k*p:Nat):Int))],?_,?_⟩
    · rintro σ' H'' ⟨rfl,rfl⟩
      refine ⟨_,?_,rfl,rfl,k+1,o/p,tt+d*o%p*p^k,rfl,?_,?_,fun i hi=>?_⟩
      · show o/p<o;exact Nat.div_lt_self c' (by omega)
      · rw [ho,Nat.pow_succ,Nat.div_div_eq_div_mul]
      · exact zgb ht (Nat.mod_lt _ (by omega))
      · rw [zgf hp ht (Nat.mod_lt _ (by omega))]
        by_cases e:i=k
        · rw [if_pos e,ho,e];unfold dg;rw [Nat.mul_mod_mod]
        · rw [if_neg e];exact hd i (by omega)
    · have hm:d*o%p<p:=Nat.mod_lt _ (by omega)
      walk_at "rd"
      refine ⟨.inl ⟨by show -(2^64:Int)<(d:Int);omega,by show (d:Int)<2^64;omega⟩,?_⟩
      walk_at "rd"
      refine ⟨by show (0:Int)<p;omega,?_⟩
      walk_at "rd"
      refine ⟨.inl ⟨by show -(2^64:Int)<((d*o%p:Nat):Int);omega,by show ((d*o%p:Nat):Int)<2^64;omega⟩,?_⟩
      walk_at "rd"
      refine ⟨⟨by show (0:Int)<p;omega,by show (p:Int)<2^64;omega⟩,?_⟩
      walk_at "rd"
      refine ⟨.inr ⟨by show -(2^64:Int)<p;omega,by show (p:Int)<2^64;omega⟩,?_⟩
      exact ⟨rfl,rfl⟩
  · have c':o=0:=by have:=of_decide_eq_false (Bool.eq_false_iff.mpr c);omega
    refine ⟨_,rfl,q tt fun i=>?_⟩
    by_cases e:i<k
    · exact hd i e
    · have hx:x<p^k:=by
        rcases Nat.lt_or_ge x (p^k) with h|h
        · exact h
        · have:=Nat.div_pos h pk;omega
      rw [zas hp ht (by omega),zas hp hx (by omega)]
      simp
def yam:Sp:=fun vs H Q _=>∃(b k:Nat),vs=[.int b,.int k]∧b≤64∧k≤1000∧Q (.int ((b^k:Nat):Int)) H
theorem yaS:yaj ["base","many","product","step"] ["base","many"] (zad yay):=⟨rfl,rfl,rfl,by decide +kernel,rfl,by decide +kernel,by decide +kernel⟩
theorem zcz (B:Bl mg) (F:Fun K "number_power" "number_power" yay f fd):FnOk P w K mg base CX0 1 f fd ["base","many"] yam:=by
  refine F.ok yaS (fun vs H Q E h=>?_) (fun cdv A outer s H vs Q E hr h=>?_)
  · obtain ⟨b,k,rfl,_⟩:=h;rfl
  obtain ⟨b,k,rfl,hb,hk,q⟩:=h
  refine ⟨_,(@yaa _ _ _ _ _ (@yaf _ _ 2 _ _ _ _ yaS.nd rfl (Or.inl rfl) yac ⋯ (by trivial)) (@yaa _ _ _ _ _ (@zaU _ _ _ _ _ _ _ _ PassesOwn.never rfl (@ya1 _ _ _ _ _ _ rfl (B "range" (by decide)) (@zaa _ _ _ _ _ (pv 1) yab ⋯) ⋯) (@zaf _ _ 3 _ yaS.nd rfl (Or.inl rfl) (by trivial)) (@zae _ _ _ (@ybt _ _ 2 _ _ _ _ _ _ yaS.nd rfl (Or.inl rfl) (pv 0) ydK (by trivial))) (by intro _;rfl)) (@zae _ _ _ (@yal _ _ _ _ (pv 2))))),?_⟩
  refine ⟨_,rfl,k,rfl,by omega,by omega,zbl (n:=k) (fun i σ H'=>H'=H∧∃s,σ=[some (.int b),some (.int k),some (.int ((b^i:Nat):Int)),s]) ⟨rfl,none,rfl⟩ ?_ ?_⟩
  · rintro i σ H' hi ⟨rfl,s,rfl⟩
    walk_at "rd"
    refine ⟨.inr ⟨by omega,by omega⟩,rfl,some (.int (0+(i:Int))),?_⟩
    rw [Nat.pow_succ];rfl
  · rintro σ H' ⟨rfl,s,rfl⟩
    exact ⟨_,rfl,q⟩
theorem ycu {i j:Int} (h:i=j):V.int i=V.int j:=congrArg V.int h
def yce (K:PySem.W.Frag):Sp:=fun vs H Q _=>∃(a:Addr) (p m t x y:Nat),vs=[.ref a,.int x,.int y]∧Fld K H a p m t∧2≤p∧p≤64∧∀r:Nat,(∀i,dg p i r=(dg p i x+(p-1)*dg p i y)%p)→Q (.int r) H
theorem yfV:yaj ["field","one","other"] ["field","one","other"] (zad ybY):=⟨rfl,rfl,rfl,by decide +kernel,rfl,by decide +kernel,by decide +kernel⟩
theorem zfC (B:Bl mg) (h_plus:Has P w K mg base 1 "plus" ["field","one","other"] (zb0 K)) (h_digit_times:Has P w K mg base 1 "digit_times" ["field","digit","one"] (yaY K)) (F:Fun K "minus" "minus" ybY f fd):FnOk P w K mg base CX0 2 f fd ["field","one","other"] (yce K):=by
  refine F.ok yfV (fun vs H Q E h=>?_) (fun cdv A outer s H vs Q E hr h=>?_)
  · obtain ⟨a,p,m,t,x,y,rfl,_⟩:=h;rfl
  obtain ⟨a,p,m,t,x,y,rfl,hF,hp,hp2,q⟩:=h
  refine ⟨_,(@zae _ _ _ (@yal _ _ _ _ (@yad _ _ _ _ _ _ _ _ _ _ _ h_plus hr (by decide) rfl (@zaa _ _ _ _ _ (pv 0) (@zaa _ _ _ _ _ (pv 1) (@zaa _ _ _ _ _ (@yad _ _ _ _ _ _ _ _ _ _ _ h_digit_times hr (by decide) rfl (@zaa _ _ _ _ _ (pv 0) (@zaa _ _ _ _ _ (@yag _ _ _ _ _ _ _ _ yaU (@zao _ _ _ _ _ _ _ yau (pv 0) yac (fun _ _=>rfl)) yac) (@zaa _ _ _ _ _ (pv 2) yab ⋯) ⋯) ⋯) (by decide) ⋯ ⋯) yab ⋯) ⋯) ⋯) (by decide) ⋯ ⋯))),?_⟩
  walk_at "rd"
  refine ⟨a,_,_,_,rfl,rfl,hF,rfl,?_⟩
  walk_at "rd"
  refine ⟨a,p,m,t,p-1,y,by dsimp only;rw [show ((p:Nat):Int)-1=((p-1:Nat):Int) by omega];rfl,hF,hp,hp2,by omega,fun r1 h1=>?_⟩
  refine ⟨a,p,m,t,x,r1,rfl,hF,hp,hp2,fun r h2=>q r fun i=>?_⟩
  rw [h2 i,h1 i,Nat.add_mod_mod]
def zdF (K:PySem.W.Frag):Sp:=fun vs H Q _=>∃(a:Addr) (p m t x:Nat),vs=[.ref a,.int x]∧Fld K H a p m t∧2≤p∧1≤m∧p^m≤64∧t<p^m∧x<p^m∧∀r:Nat,(∀i,dg p i r=yaA m (fun i=>dg p i t) (fun i=>dg p i x) i%p)→Q (.int r) H
theorem p_le {p m:Nat} (hp:2≤p) (hm:1≤m) (h:p^m≤64):p≤64:=Nat.le_trans (by simpa using Nat.pow_le_pow_right (n:=p) (by omega) hm) h
theorem m_le {p m:Nat} (hp:2≤p) (h:p^m≤64):m≤6:=by
  rcases Nat.lt_or_ge 6 m with h1|h1
  · have:=Nat.pow_le_pow_left hp m
    have:=Nat.pow_le_pow_right (n:=2) (by omega) h1
    omega
  · exact h1
theorem zbm:yaj ["field","one","p","m","top","last_unit","moved"] ["field","one"] (zad ybC):=⟨rfl,rfl,rfl,by decide +kernel,rfl,by decide +kernel,by decide +kernel⟩
theorem yff (B:Bl mg) (h_plus:Has P w K mg base 1 "plus" ["field","one","other"] (zb0 K)) (h_digit_times:Has P w K mg base 1 "digit_times" ["field","digit","one"] (yaY K)) (h_number_power:Has P w K mg base 1 "number_power" ["base","many"] yam) (F:Fun K "lifted" "lifted" ybC f fd):FnOk P w K mg base CX0 2 f fd ["field","one"] (zdF K):=by
  refine F.ok zbm (fun vs H Q E h=>?_) (fun cdv A outer s H vs Q E hr h=>?_)
  · obtain ⟨a,p,m,t,x,rfl,_⟩:=h;rfl
  obtain ⟨a,p,m,t,x,rfl,hF,hp,hm,hpm,ht,hx,q⟩:=h
  have hp2:=p_le hp hm hpm
  have hm6:=m_le hp hpm
  refine ⟨_,(@yaa _ _ _ _ _ (@zbd _ _ _ _ _ _ (pv 0) (@ybe _ _ _ _ _ _ rfl (@zah _ _ _ _ _ (@zaf _ _ 2 _ zbm.nd rfl (Or.inl rfl) (by trivial)) (@zah _ _ _ _ _ (@zaf _ _ 3 _ zbm.nd rfl (Or.inl rfl) (by trivial)) (@zah _ _ _ _ _ (@zaf _ _ 4 _ zbm.nd rfl (Or.inl rfl) (by trivial)) zaL ⋯) ⋯) ⋯) ⋯ ⋯) ⋯ ⋯ ⋯) (@yaa _ _ _ _ _ (@yaf _ _ 5 _ _ _ _ zbm.nd rfl (Or.inl rfl) (@yad _ _ _ _ _ _ _ _ _ _ _ h_number_power hr (by decide) rfl (@zaa _ _ _ _ _ (pv 2) (@zaa _ _ _ _ _ (@yag _ _ _ _ _ _ _ _ yaU (pv 3) yac) yab ⋯) ⋯) (by decide) ⋯ ⋯) ⋯ (by trivial)) (@yaa _ _ _ _ _ (@yaf _ _ 6 _ _ _ _ zbm.nd rfl (Or.inl rfl) (@yag _ _ _ _ _ _ _ _ ya4 (@yag _ _ _ _ _ _ _ _ yaB (pv 1) (pv 5)) (pv 2)) ⋯ (by trivial)) (@zae _ _ _ (@yal _ _ _ _ (@yad _ _ _ _ _ _ _ _ _ _ _ h_plus hr (by decide) rfl (@zaa _ _ _ _ _ (pv 0) (@zaa _ _ _ _ _ (pv 6) (@zaa _ _ _ _ _ (@yad _ _ _ _ _ _ _ _ _ _ _ h_digit_times hr (by decide) rfl (@zaa _ _ _ _ _ (pv 0) (@zaa _ _ _ _ _ (@yag _ _ _ _ _ _ _ _ ydG (pv 1) (pv 5)) (@zaa _ _ _ _ _ (pv 4) yab ⋯) ⋯) ⋯) (by decide) ⋯ ⋯) yab ⋯) ⋯) ⋯) (by decide) ⋯ ⋯)))))),?_⟩
  refine ⟨_,rfl,a,_,rfl,hF,rfl,_,_,rfl,_,_,rfl,_,_,rfl,rfl,?_⟩
  walk_at "rd"
  refine ⟨p,m-1,by dsimp only;rw [show ((m:Nat):Int)-1=((m-1:Nat):Int) by omega];rfl,hp2,by omega,?_⟩
  have hl:p^(m-1)≤64:=Nat.le_trans (Nat.pow_le_pow_right (by omega) (by omega)) hpm
  have hl0:0<p^(m-1):=Nat.pow_pos (by omega)
  walk_at "rd"
  refine ⟨by show (0:Int)<((p^(m-1):Nat):Int);omega,?_⟩
  walk_at "rd"
  refine ⟨.inr ⟨by show -(2^64:Int)<(p:Int);omega,by show (p:Int)<2^64;omega⟩,?_⟩
  walk_at "rd"
  refine ⟨⟨by show (0:Int)<((p^(m-1):Nat):Int);omega,by show ((p^(m-1):Nat):Int)<2^64;omega⟩,?_⟩
  walk_at "rd"
  have hdl:=zgt hp hm hx
  have hdl2:=zg6 hp (m-1) x
  refine ⟨a,p,m,t,x/p^(m-1),t,rfl,hF,hp,hp2,by omega,fun r1 h1=>?_⟩
  refine ⟨a,p,m,t,x%p^(m-1)*p,r1,rfl,hF,hp,hp2,fun r h2=>q r fun i=>?_⟩
  rw [h2 i,h1 i,zhq hp,yg9 hp,hdl,Nat.add_mod_mod]
  unfold yaA yaJ
  by_cases hi:i<m
  · rw [if_pos hi]
    by_cases h0:i=0
    · rw [if_pos h0,if_pos h0]
    · rw [if_neg h0,if_neg h0,if_pos (by omega)]
  · rw [if_neg hi,if_neg (by omega),if_neg (by omega),zas hp ht (by omega)]
    simp
def zbt (K:PySem.W.Frag):Sp:=fun vs H Q _=>∃(a:Addr) (p m t x y:Nat),vs=[.ref a,.int x,.int y]∧Fld K H a p m t∧2≤p∧1≤m∧p^m≤64∧t<p^m∧x<p^m∧y<p^m∧
  ∀r:Nat,r<p^m→(∀i,i<m→dg p i r=tn m (fun i=>dg p i t) m (fun i=>dg p i x) (fun i=>dg p i y) i%p)→Q (.int r) H
theorem zbD:yaj ["field","one","other","p","total"] ["field","one","other"] (zad zb3):=⟨rfl,rfl,rfl,by decide +kernel,rfl,by decide +kernel,by decide +kernel⟩
theorem yfB (B:Bl mg) (h_plus:Has P w K mg base 1 "plus" ["field","one","other"] (zb0 K)) (h_digit_times:Has P w K mg base 1 "digit_times" ["field","digit","one"] (yaY K)) (h_lifted:Has P w K mg base 2 "lifted" ["field","one"] (zdF K)) (F:Fun K "times" "times" zb3 f fd):FnOk P w K mg base CX0 3 f fd ["field","one","other"] (zbt K):=by
  refine F.ok zbD (fun vs H Q E h=>?_) (fun cdv A outer s H vs Q E hr h=>?_)
  · obtain ⟨a,p,m,t,x,y,rfl,_⟩:=h;rfl
  obtain ⟨a,p,m,t,x,y,rfl,hF,hp,hm,hpm,ht,hx,hy,q⟩:=h
  have hp2:=p_le hp hm hpm
  refine ⟨_,(@yaa _ _ _ _ _ (@yaf _ _ 3 _ _ _ _ zbD.nd rfl (Or.inl rfl) (@zao _ _ _ _ _ _ _ yau (pv 0) yac (fun _ _=>rfl)) ⋯ (by trivial)) (@yaa _ _ _ _ _ (@yaf _ _ 4 _ _ _ _ zbD.nd rfl (Or.inl rfl) yac ⋯ (by trivial)) (@yaa _ _ _ _ _ (@yaM _ _ _ _ _ _ PassesOwn.never (@zaj _ _ _ _ _ _ _ _ zbJ (pv 1) yac (zam _)) (@yaa _ _ _ _ _ (@yaf _ _ 4 _ _ _ _ zbD.nd rfl (Or.inl rfl) (@yad _ _ _ _ _ _ _ _ _ _ _ h_plus hr (by decide) rfl (@zaa _ _ _ _ _ (pv 0) (@zaa _ _ _ _ _ (pv 4) (@zaa _ _ _ _ _ (@yad _ _ _ _ _ _ _ _ _ _ _ h_digit_times hr (by decide) rfl (@zaa _ _ _ _ _ (pv 0) (@zaa _ _ _ _ _ (@yag _ _ _ _ _ _ _ _ yaB (pv 1) (pv 3)) (@zaa _ _ _ _ _ (pv 2) yab ⋯) ⋯) ⋯) (by decide) ⋯ ⋯) yab ⋯) ⋯) ⋯) (by decide) ⋯ ⋯) ⋯ (by trivial)) (@yaa _ _ _ _ _ (@ybt _ _ 1 _ _ _ _ _ _ zbD.nd rfl (Or.inl rfl) (pv 3) zcu (by trivial)) (@zae _ _ _ (@zbe _ _ _ _ _ _ _ _ (@zaj _ _ _ _ _ _ _ _ zbJ (pv 1) yac (zam _)) (@zae _ _ _ (@yaf _ _ 2 _ _ _ _ zbD.nd rfl (Or.inl rfl) (@yad _ _ _ _ _ _ _ _ _ _ _ h_lifted hr (by decide) rfl (@zaa _ _ _ _ _ (pv 0) (@zaa _ _ _ _ _ (pv 2) yab ⋯) ⋯) (by decide) ⋯ ⋯) ⋯ (by trivial))) zaw))))) (@zae _ _ _ (@yal _ _ _ _ (pv 4)))))),?_⟩
  refine ⟨_,rfl,a,_,_,_,rfl,rfl,hF,rfl,?_⟩
  refine zaN (fun σ H'=>H'=H∧∃(k o u tt:Nat),σ=[some (.ref a),some (.int o),some (.int u),some (.int p),some (.int tt)]∧o<p^k∧u<p^m∧tt<p^m∧
      ∀i,i<m→(dg p i tt+tn m (fun i=>dg p i t) k (fun i=>dg p i o) (fun i=>dg p i u) i)%p=tn m (fun i=>dg p i t) m (fun i=>dg p i x) (fun i=>dg p i y) i%p)
    (fun σ _=>mI σ 1) ⟨rfl,m,x,y,0,rfl,hx,hy,Nat.pow_pos (by omega),fun i _=>by rw [zbh,Nat.zero_add]⟩ ?_
  rintro σ H' ⟨rfl,k,o,u,tt,rfl,ho,hu,htt,hd⟩
  walk_at "rd"
  refine ite2 (fun c=>?_) (fun c=>?_)
  · have c':0<o:=by have:=of_decide_eq_true c;omega
    have hk:k≠0:=fun e=>by rw [e] at ho;simp at ho;omega
    obtain ⟨k,rfl⟩:∃j,k=j+1:=⟨k-1,by omega⟩
    have om:o%p<p:=Nat.mod_lt _ (by omega)
    have ho2:o/p<p^k:=Nat.div_lt_of_lt_mul (by rw [Nat.pow_succ,Nat.mul_comm] at ho;exact ho)
    have ho3:o/p<o:=Nat.div_lt_self c' (by omega)
    refine ⟨fun σ' H''=>H''=H'∧∃(o' u' t':Nat),o'=o/p∧σ'=[some (.ref a),some (.int o'),some (.int u'),some (.int p),some (.int t')]∧u'<p^m∧t'<p^m∧
      ∀i,i<m→(dg p i t'+tn m (fun i=>dg p i t) k (fun i=>dg p i o') (fun i=>dg p i u') i)%p=tn m (fun i=>dg p i t) m (fun i=>dg p i x) (fun i=>dg p i y) i%p,?_,?_⟩
    · rintro σ' H'' ⟨rfl,o',u',t',rfl,rfl,b1,b2,b3⟩
      exact ⟨_,by show o/p<o;exact ho3,rfl,rfl,k,o/p,u',t',rfl,ho2,b1,b2,b3⟩
    walk_at "rd"
    refine ⟨by show (0:Int)<p;omega,?_⟩
    walk_at "rd"
    refine ⟨a,p,m,t,o%p,u,rfl,hF,hp,hp2,by omega,fun r1 h1=>?_⟩
    refine ⟨a,p,m,t,tt,r1,rfl,hF,hp,hp2,fun r2 h2=>?_⟩
    have hr2:r2<p^m:=yb2 hp fun i hi=>by rw [h2 i,h1 i,zas hp htt hi,zas hp hu hi];simp
    have hd2:∀i,i<m→(dg p i r2+tn m (fun i=>dg p i t) k (fun i=>dg p i (o/p)) (yaA m (fun i=>dg p i t) fun i=>dg p i u) i)%p=tn m (fun i=>dg p i t) m (fun i=>dg p i x) (fun i=>dg p i y) i%p:=fun i hi=>by
      rw [←hd i hi,h2 i,h1 i]
      show _=(dg p i tt+(dg p 0 o*dg p i u+tn m (fun i=>dg p i t) k (fun j=>dg p (j+1) o) (yaA m (fun i=>dg p i t) fun i=>dg p i u) i))%p
      rw [ycx,zbi,←Nat.add_assoc]
      refine ybq ?_ rfl
      rw [Nat.mod_mod]
      exact ybq rfl (Nat.mod_mod _ _)
    walk_at "rd"
    refine ⟨⟨by show (0:Int)<p;omega,by show (p:Int)<2^64;omega⟩,?_⟩
    walk_at "rd"
    refine ite2 (fun c2=>?_) (fun c2=>?_)
    · walk_at "rd"
      refine ⟨a,p,m,t,u,rfl,hF,hp,hm,hpm,ht,hu,fun r3 h3=>?_⟩
      have hr3:r3<p^m:=yb2 hp fun i hi=>by rw [h3 i];unfold yaA;rw [if_neg (by omega)];simp
      refine ⟨rfl,o/p,r3,r2,rfl,rfl,hr3,hr2,fun i hi=>?_⟩
      rw [←hd2 i hi]
      exact ybq rfl (ybs hm k _ _ _ (fun j _=>by rw [h3 j,Nat.mod_mod]) i hi)
    · have c3:o/p=0:=by have:=of_decide_eq_false (Bool.eq_false_iff.mpr c2);exact Nat.le_zero.mp (Int.ofNat_le.mp (show ((o/p:Nat):Int)≤((0:Nat):Int) from Int.not_lt.mp this))
      refine ⟨rfl,o/p,u,r2,rfl,rfl,hu,hr2,fun i hi=>?_⟩
      rw [←hd2 i hi,c3,yb1 k _ _ i (fun j=>zbh p j),yb1 k _ _ i (fun j=>zbh p j)]
  · have c':o=0:=by have:=of_decide_eq_false (Bool.eq_false_iff.mpr c);omega
    refine ⟨_,rfl,q tt htt fun i hi=>?_⟩
    rw [←hd i hi,c',yb1 k _ _ i (fun j=>zbh p j),Nat.add_zero,zea]
end
end My
end
section
-- text: P2
namespace My
open PySem L2 Dg
local macro_rules | `(tactic| walk_at "rd") => `(tactic| repeat (first | refine ⟨_, rfl, ?_⟩ | refine ⟨_, _, rfl, rfl, ?_⟩))
theorem zac {H:Hp} {p:Addr} (h:H p=none) (o:HO):Same H (upd H p o):=fun b u q=>by rw [zag (yae q h)];exact q
abbrev Vn (n:Nat):V:=.int (n:Int)
def Pu (H:Hp) (a g:Addr):Prop:=∃(ns:List Nat) (s t:Nat),H a=some (.lst [.ref g,Vn s,Vn t])∧H g=some (.lst (ns.map Vn))
theorem Pu.ne {H:Hp} {a g:Addr} (h:Pu H a g):a≠g:=by
  obtain ⟨ns,s,t,h1,h2⟩:=h
  intro e;subst e;rw [h1] at h2
  have h3:=HO.lst.inj (Option.some.inj h2)
  cases ns with
  | nil=>cases h3
  | cons n ns=>cases h3
def yar (a g:Addr) (H H':Hp):Prop:=∀b o,b≠a→b≠g→H b=some o→H' b=some o
theorem yar.refl {a g:Addr} {H:Hp}:yar a g H H:=fun _ _ _ _ e=>e
theorem yar.trans {a g:Addr} {H H1 H2:Hp} (h1:yar a g H H1) (h2:yar a g H1 H2):yar a g H H2:=fun b o n1 n2 e=>h2 b o n1 n2 (h1 b o n1 n2 e)
theorem Same.x {a g:Addr} {H H1:Hp} (h:Same H H1):yar a g H H1:=fun b o _ _ e=>h b o e
theorem Pu.same {H H':Hp} {a g:Addr} (h:Pu H a g) (s:Same H H'):Pu H' a g:=by
  obtain ⟨ns,x,t,h1,h2⟩:=h
  exact ⟨ns,x,t,s _ _ h1,s _ _ h2⟩
theorem szl (n:Nat) (h:n≤100000:=by omega):n≤sizeLine:=by rw [sizeLine_eq];omega
section
variable {P:Program} {w:World} {K:PySem.W.Frag} {mg:Str→Option Value} {base:Heap} {f:Addr} {fd:FuncData}
theorem zaZ:yaj ["_law_one","_law_many","_law_found","_law_turn"] ["_law_one","_law_many"] (zad yaG):=⟨rfl,rfl,rfl,by decide +kernel,rfl,by decide +kernel,by decide +kernel⟩
theorem yfi (B:Bl mg) (F:Fun K "_law_raised" "_law_raised" yaG f fd):FnOk P w K mg base CX0 1 f fd ["_law_one","_law_many"] yam:=by
  refine F.ok zaZ (fun vs H Q E h=>?_) (fun cdv A outer s H vs Q E hr h=>?_)
  · obtain ⟨b,k,rfl,_⟩:=h;rfl
  obtain ⟨b,k,rfl,hb,hk,q⟩:=h
  refine ⟨_,(yaa (@yaf _ _ 2 _ _ _ _ zaZ.nd rfl (Or.inl rfl) yac ⋯ (by trivial)) (yaa (@zaU _ _ _ _ _ _ _ _ PassesOwn.never rfl (@ya1 _ _ _ _ _ _ rfl (B "range" (by decide)) (zaa (pv 1) yab ⋯) ⋯) (@zaf _ _ 3 _ zaZ.nd rfl (Or.inl rfl) (by trivial)) (zae (@yaf _ _ 2 _ _ _ _ zaZ.nd rfl (Or.inl rfl) (yag ya4 (pv 2) (pv 0)) ⋯ (by trivial))) (by intro _;rfl)) (zae (@yal _ _ _ _ (pv 2))))),?_⟩
  refine ⟨_,rfl,k,rfl,by omega,by omega,zbl (n:=k) (fun i σ H'=>H'=H∧∃s,σ=[some (.int b),some (.int k),some (.int ((b^i:Nat):Int)),s]) ⟨rfl,none,rfl⟩ ?_ ?_⟩
  · rintro i σ H' hi ⟨rfl,s,rfl⟩
    walk_at "rd"
    refine ⟨.inr ⟨by omega,by omega⟩,rfl,some (.int (0+(i:Int))),?_⟩
    rw [Nat.pow_succ];rfl
  · rintro σ H' ⟨rfl,s,rfl⟩
    exact ⟨_,rfl,q⟩
def digL (p m x:Nat):List V:=(List.range m).map fun i=>Vn (dg p i x)
theorem ze3 (p m x:Nat):digL p (m+1) x=digL p m x++[Vn (dg p m x)]:=by unfold digL;rw [List.range_succ,List.map_append];rfl
theorem ybr (p m x:Nat):(digL p m x).length=m:=by simp [digL]
def ydq (K:PySem.W.Frag):Sp:=fun vs H Q _=>∃(a:Addr) (p m t x:Nat),vs=[.ref a,.int x]∧Fld K H a p m t∧2≤p∧p≤64∧m≤64∧∀r H',H r=none→Same H H'→H' r=some (.lst (digL p m x))→Q (.ref r) H'
theorem za0:yaj ["_law_field_here","_law_thing","_law_found","_law_k"] ["_law_field_here","_law_thing"] (zad yaI):=⟨rfl,rfl,rfl,by decide +kernel,rfl,by decide +kernel,by decide +kernel⟩
theorem ye5 (B:Bl mg) (F:Fun K "_law_digits" "_law_digits" yaI f fd):FnOk P w K mg base CX0 1 f fd ["_law_field_here","_law_thing"] (ydq K):=by
  refine F.ok za0 (fun vs H Q E h=>?_) (fun cdv A outer s H vs Q E hr h=>?_)
  · obtain ⟨a,p,m,t,x,rfl,_⟩:=h;rfl
  obtain ⟨a,p,m,t,x,rfl,hF,hp,hp2,hm,q⟩:=h
  refine ⟨_,(yaa (@yaf _ _ 2 _ _ _ _ za0.nd rfl (Or.inl rfl) (@zaK _ _ _ _ yab) ⋯ (by trivial)) (yaa (@zaU _ _ _ _ _ _ _ _ PassesOwn.never rfl (@ya1 _ _ _ _ _ _ rfl (B "range" (by decide)) (zaa (zao yau (pv 0) yac (fun _ _=>rfl)) yab ⋯) ⋯) (@zaf _ _ 3 _ za0.nd rfl (Or.inl rfl) (by trivial)) (yaa (@ybX _ _ _ _ (@yeF _ _ _ _ _ _ _ _ _ _ _ _ PySem.F.plainAttrs_list PySem.F.slot_list_append PySem.F.type_list_append ybx (pv 2) (zaa (yag yaB (pv 1) (zao yau (pv 0) yac (fun _ _=>rfl))) yab ⋯) ⋯ ⋯ ⋯ ⋯ ⋯) ⋯) (zae (@yaf _ _ 1 _ _ _ _ za0.nd rfl (Or.inl rfl) (yag ydG (pv 1) (zao yau (pv 0) yac (fun _ _=>rfl))) ⋯ (by trivial)))) (by intro _;rfl)) (zae (@yal _ _ _ _ (pv 2))))),?_⟩
  refine ⟨szl 0,fun l hl=>?_⟩
  have g1:Same H (upd H l (.lst [])):=zac hl _
  refine ⟨_,rfl,a,_,_,_,rfl,rfl,Same.tup g1 hF,rfl,m,rfl,by omega,by omega,zbl (n:=m) (fun i σ H'=>H'=upd H l (.lst (digL p i x))∧∃s,σ=[some (.ref a),some (.int ((x/p^i:Nat):Int)),some (.ref l),s]) ⟨rfl,none,by simp;rfl⟩ ?_ ?_⟩
  · rintro i σ H' hi ⟨rfl,s,rfl⟩
    have g2:Same H (upd H l (.lst (digL p i x))):=zac hl _
    refine ⟨_,rfl,.inl ⟨rfl,_,SqL.of zab⟩,?_⟩
    walk_at "rd"
    refine ⟨a,_,_,_,rfl,rfl,Same.tup g2 hF,rfl,?_⟩
    walk_at "rd"
    refine ⟨by show (0:Int)<p;omega,l,_,_,rfl,rfl,zab,by rw [ybr];exact Nat.lt_of_le_of_lt (show i≤1000 by omega) (yap (Nat.le_refl _)),?_⟩
    rw [ydM]
    have g3:Same H (upd H l (.lst (digL p (i+1) x))):=zac hl _
    have e1:digL p i x++[V.int (((x/p^i:Nat):Int)%(p:Int))]=digL p (i+1) x:=by rw [ze3];rfl
    rw [e1]
    refine ⟨_,rfl,_,rfl,a,_,_,_,rfl,rfl,Same.tup g3 hF,rfl,?_⟩
    walk_at "rd"
    refine ⟨⟨by show (0:Int)<p;omega,by show (p:Int)<2^64;omega⟩,rfl,some (.int (0+(i:Int))),?_⟩
    rw [Nat.pow_succ,←Nat.div_div_eq_div_mul];rfl
  · rintro σ H' ⟨rfl,s,rfl⟩
    exact ⟨_,rfl,q l _ hl (zac hl _) zab⟩
def num (p:Nat):List Nat→Nat
  | []=>0
  | d::ds=>num p ds*p+d
theorem ze8 {p:Nat} (hp:2≤p):∀(ds:List Nat),(∀d∈ds,d<p)→∀i,dg p i (num p ds)=ds.getD i 0
  | [],_,i=>by simp [num,zbh]
  | d::ds,h,i=>by
    have hd:d<p:=h d List.mem_cons_self
    have ih:=ze8 hp ds fun x hx=>h x (List.mem_cons_of_mem _ hx)
    cases i with
    | zero=>rw [zbi];show (num p ds*p+d)%p=d;rw [Nat.mul_comm,Nat.mul_add_mod,Nat.mod_eq_of_lt hd]
    | succ i =>
      rw [zbp]
      show dg p i ((num p ds*p+d)/p)=ds.getD i 0
      rw [Nat.mul_comm,Nat.mul_add_div (by omega),Nat.div_eq_of_lt hd,Nat.add_zero]
      exact ih i
def ydi (K:PySem.W.Frag):Sp:=fun vs H Q _=>∃(a b:Addr) (p m t:Nat) (ds:List Nat),vs=[.ref a,.ref b]∧Fld K H a p m t∧2≤p∧p≤64∧SqL K H b (ds.map Vn)∧∀H',Same H H'→Q (Vn (num p ds)) H'
theorem ya0:yaj ["_law_field_here","_law_digits_here","_law_found","_law_digit"] ["_law_field_here","_law_digits_here"] (zad zaJ):=⟨rfl,rfl,rfl,by decide +kernel,rfl,by decide +kernel,by decide +kernel⟩
theorem yeJ (B:Bl mg) (F:Fun K "_law_number" "_law_number" zaJ f fd):FnOk P w K mg base CX0 1 f fd ["_law_field_here","_law_digits_here"] (ydi K):=by
  refine F.ok ya0 (fun vs H Q E h=>?_) (fun cdv A outer s H vs Q E hr h=>?_)
  · obtain ⟨a,b,p,m,t,ds,rfl,_⟩:=h;rfl
  obtain ⟨a,b,p,m,t,ds,rfl,hF,hp,hp2,hb,q⟩:=h
  refine ⟨_,(yaa (@yaf _ _ 2 _ _ _ _ ya0.nd rfl (Or.inl rfl) yac ⋯ (by trivial)) (yaa (@zaU _ _ _ _ _ _ _ _ PassesOwn.never rfl (@zbk _ _ _ _ (@zgT _ _ _ _ _ _ _ _ (pv 1))) (@zaf _ _ 3 _ ya0.nd rfl (Or.inl rfl) (by trivial)) (zae (@yaf _ _ 2 _ _ _ _ ya0.nd rfl (Or.inl rfl) (yag yas (yag ya4 (pv 2) (zao yau (pv 0) yac (fun _ _=>rfl))) (pv 3)) ⋯ (by trivial))) (by intro _;rfl)) (zae (@yal _ _ _ _ (pv 2))))),?_⟩
  refine ⟨_,rfl,b,_,rfl,hb,fun l hl=>?_⟩
  have g1:Same H (upd H l (.lst (ds.map Vn).reverse)):=zac hl _
  refine ⟨l,rfl,⟨_,SqL.of zab⟩,yem (xs:=(ds.map Vn).reverse) (fun i σ H'=>H'=upd H l (.lst (ds.map Vn).reverse)∧∃s,σ=[some (.ref a),some (.ref b),some (Vn (num p (ds.drop (ds.length-i)))),s]) ⟨rfl,none,by rw [Nat.sub_zero,List.drop_length];rfl⟩ ?_ ?_ ?_⟩
  · rintro i σ H' hi ⟨rfl,_⟩;exact SqL.of zab
  · rintro i x σ H' hx ⟨rfl,s,rfl⟩
    have hi:i<ds.length:=by have:=(List.getElem?_eq_some_iff.mp hx).1;simpa using this
    have ex:x=Vn (ds[ds.length-1-i]):=by
      rw [List.getElem?_reverse (by simpa using hi),List.getElem?_map,List.length_map,List.getElem?_eq_getElem (by omega)] at hx
      exact (Option.some.inj hx).symm
    subst ex
    walk_at "rd"
    refine ⟨a,_,_,_,rfl,rfl,Same.tup g1 hF,rfl,?_⟩
    walk_at "rd"
    refine ⟨.inr ⟨by show -(2^64:Int)<(p:Int);omega,by show (p:Int)<2^64;omega⟩,?_⟩
    walk_at "rd"
    refine ⟨rfl,some (Vn (ds[ds.length-1-i])),?_⟩
    have e:ds.drop (ds.length-(i+1))=ds[ds.length-1-i]::ds.drop (ds.length-i):=by
      rw [show ds.length-(i+1)=ds.length-1-i by omega,List.drop_eq_getElem_cons (by omega)]
      congr 2;omega
    rw [e];rfl
  · rintro σ H' ⟨rfl,s,rfl⟩
    refine ⟨_,rfl,?_⟩
    have e:ds.length-(ds.map Vn).reverse.length=0:=by simp
    rw [e,List.drop_zero]
    exact q _ g1
def zec (K:PySem.W.Frag):Sp:=fun vs H Q _=>∃(a:Addr) (ns:List Int),vs=[.ref a]∧SqL K H a (ns.map V.int)∧∀r g H',H r=none→H g=none→Same H H'→Pu H' r g→Q (.ref r) H'
theorem ya5:yaj ["_law_script","_law_seed","_law_great","_law_cell"] ["_law_script"] (zad yaP):=⟨rfl,rfl,rfl,by decide +kernel,rfl,by decide +kernel,by decide +kernel⟩
theorem zf7 {i:Int} (h:0≤i):∃n:Nat,V.int i=Vn n:=by obtain ⟨n,e⟩:=Int.eq_ofNat_of_zero_le h;exact ⟨n,by rw [e]⟩
theorem yfz (B:Bl mg) (F:Fun K "_law_purse" "_law_purse" yaP f fd):FnOk P w K mg base CX0 1 f fd ["_law_script"] (zec K):=by
  refine F.ok ya5 (fun vs H Q E h=>?_) (fun cdv A outer s H vs Q E hr h=>?_)
  · obtain ⟨a,ns,rfl,_⟩:=h;rfl
  obtain ⟨a,ns,rfl,ha,q⟩:=h
  refine ⟨_,(yaa (@ycp _ _ 1 2 _ _ _ _ _ _ _ _ _ _ _ rfl ya5.nd rfl rfl (by decide) rfl rfl (zaa yac (zaa (@zaK _ _ _ _ yab) yab ⋯) ⋯) rfl ⋯) (yaa (@zaU _ _ _ _ _ _ _ _ PassesOwn.never rfl (@zbk _ _ _ _ (@zcf _ _ _ _ _ _ _ _ _ _ zdS (pv 0) zde (@ydb _ _ _ yac))) (@zaf _ _ 3 _ ya5.nd rfl (Or.inl rfl) (by trivial)) (yaa (@yaf _ _ 1 _ _ _ _ ya5.nd rfl (Or.inl rfl) (yag yaB (yag yas (yag yas (yag ya4 (pv 1) yac) (yag yaB (pv 3) yac)) yac) yac) ⋯ (by trivial)) (zae (@zbe _ _ _ _ _ _ _ _ (@zaj _ _ _ _ _ _ _ _ zhs (zan yee rfl (B "abs" (by decide)) ycm (zaa (pv 3) yab ⋯) (by decide) (by decide) ⋯ ⋯) (yag yeh yac yac) (zam _)) (zae (@ybX _ _ _ _ (@yeF _ _ _ _ _ _ _ _ _ _ _ _ PySem.F.plainAttrs_list PySem.F.slot_list_append PySem.F.type_list_append ybx (pv 2) (zaa (yag yaB (zan yee rfl (B "abs" (by decide)) ycm (zaa (pv 3) yab ⋯) (by decide) (by decide) ⋯ ⋯) (yag ygl (yag yeh yac yac) (yag yeh yac yac))) yab ⋯) ⋯ ⋯ ⋯ ⋯ ⋯) ⋯)) zaw))) (by intro _;rfl)) (zae (@yal _ _ _ _ (@zaK _ _ _ _ (zaa (pv 2) (zaa (pv 1) (zaa yac yab ⋯) ⋯) ⋯)))))),?_⟩
  refine ⟨szl 0,fun g hg=>?_⟩
  have g1:Same H (upd H g (.lst [])):=zac hg _
  refine ⟨_,_,rfl,?_⟩
  refine ⟨_,rfl,_,rfl,a,_,rfl,g1.seq ha,fun l hl=>?_⟩
  generalize hcut:cutV (ns.map V.int) none (some 40)=cs
  have hcs:∀x∈cs,∃i:Int,x = .int i:=fun x hx=>by
    rw [←hcut] at hx
    unfold cutV at hx
    obtain ⟨i,_,e⟩:=List.mem_map.mp (List.mem_of_mem_drop (List.mem_of_mem_take hx))
    exact ⟨i,e.symm⟩
  have hlen:cs.length≤40:=by
    rw [←hcut];unfold cutV
    rw [List.length_take,show HT.sIx (ns.map V.int).length (ns.map V.int).length (some 40)=min 40 (ns.map V.int).length from HT.sIx_nat _ _ 40]
    omega
  have hgl:l≠g:=fun e=>by rw [e,zab] at hl;cases hl
  refine ⟨l,rfl,⟨_,SqL.of zab⟩,yem (xs:=cs) (fun i σ H'=>(∃(s:Nat) (x:Option V) (gs:List Nat),gs.length≤i∧σ=[some (.ref a),some (Vn s),some (.ref g),x]∧H' g=some (.lst (gs.map Vn)))∧Same H H'∧H' l=some (.lst cs))
    ⟨⟨7,none,[],Nat.le_refl _,rfl,by rw [zag (Ne.symm hgl)];exact zab⟩,g1.trans (zac hl _),zab⟩ ?_ ?_ ?_⟩
  · rintro i σ H' hi ⟨_,_,h⟩;exact SqL.of h
  · rintro i x σ H' hx ⟨⟨s,x0,gs,hgs,rfl,hg'⟩,sm,hl'⟩
    obtain ⟨c,rfl⟩:=hcs x (List.mem_of_getElem? hx)
    have hi:i<cs.length:=(List.getElem?_eq_some_iff.mp hx).1
    walk_at "rd"
    refine ⟨.inr ⟨by decide,by decide⟩,?_⟩
    walk_at "rd"
    refine ⟨by show (0:Int)<2305843009213693951;decide,?_⟩
    walk_at "rd"
    refine ⟨by show (0:Int)<2305843009213693951;decide,?_⟩
    obtain ⟨s',es⟩:=zf7 (i:=((s:Int)*1000003+c%2305843009213693951+12345)%2305843009213693951) (Int.emod_nonneg _ (by decide))
    dsimp only [zau];rw [es]
    refine ⟨_,rfl,_,rfl,_,_,rfl,rfl,⟨by decide,by decide,by decide⟩,?_⟩
    refine ⟨_,_,rfl,rfl,_,rfl,?_⟩
    refine ite2 (fun c2=>?_) (fun c2=>?_)
    · refine ⟨_,rfl,.inl ⟨rfl,_,SqL.of hg'⟩,?_⟩
      refine ⟨_,rfl,_,rfl,_,_,rfl,rfl,⟨by decide,by decide,by decide⟩,?_⟩
      refine ⟨_,_,rfl,rfl,⟨by decide,by decide,by decide⟩,?_⟩
      refine ⟨_,_,rfl,rfl,IntMulOk.of_bits (by decide +kernel) (by decide +kernel),?_⟩
      refine ⟨_,_,rfl,rfl,by show (0:Int)<10^Int.toNat 60*10^Int.toNat 60;decide +kernel,?_⟩
      obtain ⟨d,ed⟩:=zf7 (i:=(if c<0 then -c else c)%(10^(60:Int).toNat*10^(60:Int).toNat)) (Int.emod_nonneg _ (by decide))
      dsimp only;rw [ed]
      refine ⟨g,_,_,rfl,rfl,hg',?_,⟨s',some (.int c),gs++[d],by simp;omega,rfl,by rw [zab,List.map_append];rfl⟩,?_,?_⟩
      · rw [List.length_map];exact Nat.lt_of_le_of_lt (show gs.length≤1000 by omega) (yap (Nat.le_refl _))
      · intro b o e
        rw [zag (yae e hg)]
        exact sm b o e
      · rw [zag hgl];exact hl'
    · exact ⟨⟨s',some (.int c),gs,by omega,rfl,hg'⟩,sm,hl'⟩
  · rintro σ H' ⟨⟨s,x,gs,hgs,rfl,hg'⟩,sm,_⟩
    refine ⟨_,rfl,_,rfl,szl 3,fun r hr=>?_⟩
    have ne:g≠r:=yae hg' hr
    refine q r g _ (sm.free hr) hg (sm.trans (zac hr _)) ⟨gs,s,0,zab,?_⟩
    rw [zag ne];exact hg'
theorem zdb {α:Type} (x:α) (xs:List α):atI (x::xs) 0=some x:=ybc (j:=0) rfl
theorem yen {n:Nat} (h:0<n):ixN n 0=some 0:=by
  unfold ixN
  rw [if_pos (by decide),if_pos (by omega)];rfl
theorem yba {t u:TS} {D:Ends} {σ:St} {H:Hp} (Ex:St→Hp→Prop) (r:∀σ' H',Ex σ' H'→u D σ' H') (h:∀D':Ends,D'.rt=D.rt→D'.bk=D.bk→D'.ct=D.ct→(∀σ' H',Ex σ' H'→D'.nx σ' H')→t D' σ H):tSeq t u D σ H:=h _ rfl rfl rfl r
def yc2:Sp:=fun vs H Q _=>∃(a g:Addr) (n:Nat),vs=[.ref a,Vn n]∧Pu H a g∧0<n∧n<2^200∧∀(r:Nat) H',r<n→Pu H' a g→yar a g H H'→Q (Vn r) H'
def yca (H:Hp) (g:Addr):Nat:=match H g with
  | some (.lst xs)=>xs.length
  | _=>0
theorem ybg {H:Hp} {g:Addr} {xs:List V} (h:H g=some (.lst xs)):yca H g=xs.length:=by unfold yca;rw [h]
theorem modn {x:Int} {n:Nat} (h:0<n):∃r:Nat,r<n∧V.int (x%(n:Int))=Vn r:=by
  have h1:=Int.emod_nonneg x (show (n:Int)≠0 by omega)
  have h2:=Int.emod_lt_of_pos x (show (0:Int)<n by omega)
  exact ⟨(x%(n:Int)).toNat,by omega,by show V.int _=V.int _;congr 1;omega⟩
theorem zaR:yaj ["_law_purse_here","_law_many","_law_digit","_law_turn","_law_prime","_law_once","_law_mixed"] ["_law_purse_here","_law_many"] (zad yaW):=⟨rfl,rfl,rfl,by decide +kernel,rfl,by decide +kernel,by decide +kernel⟩
theorem ygh (B:Bl mg) (F:Fun K "_law_pick" "_law_pick" yaW f fd):FnOk P w K mg base CX0 1 f fd ["_law_purse_here","_law_many"] yc2:=by
  refine F.ok zaR (fun vs H Q E h=>?_) (fun cdv A outer s H vs Q E hr h=>?_)
  · obtain ⟨a,g,n,rfl,_⟩:=h;rfl
  obtain ⟨a,g,n,rfl,hP,hn,hn2,q⟩:=h
  have nag:=hP.ne
  refine ⟨_,(yaa (@yaM _ _ _ _ _ _ PassesOwn.never (@PW.pt _ _ _ (@zf6 _ _ _ _ _ _ _ (@zaj _ _ _ _ _ _ _ _ (zf5 hr.units0) (zao yan (pv 0) yac (fun _ _=>rfl)) (@zaK _ _ _ _ yab) (zam _)) (@ye9 _ _ _ _ (@zaj _ _ _ _ _ _ _ _ ybw (zao yan (zao yan (pv 0) yac (fun _ _=>rfl)) yac (fun _ _=>rfl)) yac (zam _))))) (zae (@ybX _ _ _ _ (@yeF _ _ _ _ _ _ _ _ _ _ _ _ PySem.F.plainAttrs_list PySem.F.slot_list_pop PySem.F.type_list_pop zfB (zao yan (pv 0) yac (fun _ _=>rfl)) (zaa yac yab ⋯) ⋯ ⋯ ⋯ ⋯ ⋯) ⋯))) (yaa (@zbe _ _ _ _ _ _ _ _ (@zaj _ _ _ _ _ _ _ _ (zf5 hr.units0) (zao yan (pv 0) yac (fun _ _=>rfl)) (@zaK _ _ _ _ yab) (zam _)) (yaa (@yaf _ _ 2 _ _ _ _ zaR.nd rfl (Or.inl rfl) (yag yaB (zao yan (zao yan (pv 0) yac (fun _ _=>rfl)) yac (fun _ _=>rfl)) (pv 1)) ⋯ (by trivial)) (yaa (@zbd _ _ _ _ _ _ (yag zgJ (zao yan (zao yan (pv 0) yac (fun _ _=>rfl)) yac (fun _ _=>rfl)) (pv 1)) (@zck _ _ _ _ _ _ _ (zao yan (pv 0) yac (fun _ _=>rfl)) yac zbq (by intro _;rfl)) ⋯ ⋯ ⋯) (zae (@yal _ _ _ _ (pv 2))))) zaw) (yaa (@zbd _ _ _ _ _ _ (yag yas (zao yan (pv 0) yac (fun _ _=>rfl)) yac) (@zck _ _ _ _ _ _ _ (pv 0) yac zbq (by intro _;rfl)) ⋯ ⋯ ⋯) (yaa (@yaf _ _ 3 _ _ _ _ zaR.nd rfl (Or.inl rfl) (zao yan (pv 0) yac (fun _ _=>rfl)) ⋯ (by trivial)) (yaa (@yaf _ _ 4 _ _ _ _ zaR.nd rfl (Or.inl rfl) (zao yan (@zaK _ _ _ _ (zaa yac (zaa yac (zaa yac (zaa yac (zaa yac (zaa yac (zaa yac yab ⋯) ⋯) ⋯) ⋯) ⋯) ⋯) ⋯)) (yag yaB (pv 3) yac) (fun _ _=>rfl)) ⋯ (by trivial)) (yaa (@yaf _ _ 5 _ _ _ _ zaR.nd rfl (Or.inl rfl) (yag yaB (yag yas (zao yan (pv 0) yac (fun _ _=>rfl)) (yag ya4 yac (pv 3))) yac) ⋯ (by trivial)) (yaa (@yaf _ _ 6 _ _ _ _ zaR.nd rfl (Or.inl rfl) (yag ya4 (yag yaB (yag yeh (pv 5) yac) yac) (yag yas (yag ya4 yac (pv 3)) yac)) ⋯ (by trivial)) (zae (@yal _ _ _ _ (yag yaB (yag ydG (yag yaB (yag yas (pv 6) (yag ydG (zao yan (pv 0) yac (fun _ _=>rfl)) yac)) (pv 4)) yac) (pv 1))))))))))),?_⟩
  refine yba (fun σ H'=>σ=[some (.ref a),some (Vn n),none,none,none,none,none]∧Pu H' a g∧yar a g H H') ?_ ?_
  · rintro σ H' ⟨rfl,⟨ns,x,t,ha,hg⟩,sm⟩
    refine yba (fun σ H1=>ns=[]∧σ=[some (.ref a),some (Vn n),none,none,none,none,none]∧H1 a=some (.lst [.ref g,Vn x,Vn t])∧H1 g=some (.lst [])∧yar a g H H1) ?_ ?_
    · rintro σ H1 ⟨rfl,rfl,ha,hg,sm⟩
      refine ⟨_,rfl,a,_,_,_,rfl,rfl,SqL.of ha,rfl,?_⟩
      refine ⟨_,_,rfl,rfl,?_⟩
      refine ⟨_,rfl,a,_,2,2,rfl,rfl,ha,rfl,?_⟩
      have h1:(upd H1 a (.lst [.ref g,Vn x,.int ((t:Int)+1)])) a=some (.lst [.ref g,Vn x,Vn (t+1)]):=zab
      have h2:(upd H1 a (.lst [.ref g,Vn x,.int ((t:Int)+1)])) g=some (.lst []):=by rw [zag (Ne.symm nag)];exact hg
      have h3:yar a g H (upd H1 a (.lst [.ref g,Vn x,.int ((t:Int)+1)])):=fun b o n1 n2 e=>by rw [zag n1];exact sm b o n1 n2 e
      change tSeq _ _ _ _ (upd H1 a (.lst [.ref g,Vn x,.int ((t:Int)+1)]))
      generalize upd H1 a (.lst [.ref g,Vn x,.int ((t:Int)+1)])=H2 at h1 h2 h3 ⊢
      refine ⟨_,rfl,a,_,_,_,rfl,rfl,SqL.of h1,rfl,?_⟩
      refine ⟨szl 7,fun l hl=>?_⟩
      have nla:a≠l:=yae h1 hl
      have nlg:g≠l:=yae h2 hl
      refine ⟨_,rfl,_,_,rfl,rfl,by show (0:Int)<7;decide,?_⟩
      obtain ⟨k,hk,ek⟩:=modn (x:=((t+1:Nat):Int)) (n:=7) (by omega)
      have hprime:∃pr:Nat,61<pr∧atI [V.int 2147483629,.int 2147483587,.int 2147483579,.int 2147483563,.int 2147483549,.int 2147483543,.int 2147483497] (k:Int)=some (Vn pr):=by
        have:k=0∨k=1∨k=2∨k=3∨k=4∨k=5∨k=6:=by omega
        rcases this with rfl|rfl|rfl|rfl|rfl|rfl|rfl
        · exact ⟨2147483629,by decide,rfl⟩
        · exact ⟨2147483587,by decide,rfl⟩
        · exact ⟨2147483579,by decide,rfl⟩
        · exact ⟨2147483563,by decide,rfl⟩
        · exact ⟨2147483549,by decide,rfl⟩
        · exact ⟨2147483543,by decide,rfl⟩
        · exact ⟨2147483497,by decide,rfl⟩
      obtain ⟨pr,hpr,epr⟩:=hprime
      have ek':((t+1:Nat):Int)%(7:Int)=(k:Int):=by have:=V.int.inj ek;exact this
      refine ⟨l,_,k,Vn pr,rfl,ek,SqL.of zab,epr,?_⟩
      have h1':(upd H2 l (.lst [V.int 2147483629,.int 2147483587,.int 2147483579,.int 2147483563,.int 2147483549,.int 2147483543,.int 2147483497])) a=some (.lst [.ref g,Vn x,Vn (t+1)]):=by rw [zag nla];exact h1
      have h2':(upd H2 l (.lst [V.int 2147483629,.int 2147483587,.int 2147483579,.int 2147483563,.int 2147483549,.int 2147483543,.int 2147483497])) g=some (.lst []):=by rw [zag nlg];exact h2
      have h3':yar a g H (upd H2 l (.lst [V.int 2147483629,.int 2147483587,.int 2147483579,.int 2147483563,.int 2147483549,.int 2147483543,.int 2147483497])):=h3.trans (Same.x (zac hl _))
      change tSeq _ _ _ _ (upd H2 l (.lst [V.int 2147483629,.int 2147483587,.int 2147483579,.int 2147483563,.int 2147483549,.int 2147483543,.int 2147483497]))
      generalize upd H2 l (.lst [V.int 2147483629,.int 2147483587,.int 2147483579,.int 2147483563,.int 2147483549,.int 2147483543,.int 2147483497])=H3 at h1' h2' h3' ⊢
      refine ⟨_,rfl,a,_,_,_,rfl,rfl,SqL.of h1',rfl,?_⟩
      refine ⟨_,rfl,_,_,rfl,rfl,.inl ⟨by decide,by decide⟩,?_⟩
      refine ⟨_,_,rfl,rfl,?_⟩
      refine ⟨_,_,rfl,rfl,by show (0:Int)<2147483647;decide,?_⟩
      obtain ⟨on,hon,eon⟩:=modn (x:=(x:Int)+65537*((t+1:Nat):Int)) (n:=2147483647) (by decide)
      dsimp only [zau]
      rw [show V.int (((x:Int)+65537*((t+1:Nat):Int))%2147483647)=Vn on from eon]
      refine ⟨_,rfl,_,_,rfl,rfl,⟨by decide,by decide,by show (on:Int).natAbs<2^64;omega⟩,?_⟩
      refine ⟨_,_,rfl,rfl,by show (0:Int)<2147483647;decide,?_⟩
      obtain ⟨o5,ho5,eo5⟩:=modn (x:=(on:Int)^(5:Int).toNat) (n:=2147483647) (by decide)
      refine ⟨_,rfl,_,_,rfl,rfl,.inl ⟨by decide,by decide⟩,?_⟩
      refine ⟨_,_,rfl,rfl,?_⟩
      have b5:(on:Int)^(5:Int).toNat%2147483647=(o5:Int):=V.int.inj eo5
      refine ⟨_,_,rfl,rfl,.inl ⟨by rw [b5];omega,by rw [b5];omega⟩,?_⟩
      refine ⟨_,rfl,_,rfl,a,_,_,_,rfl,rfl,SqL.of h1',rfl,?_⟩
      refine ⟨_,_,rfl,rfl,⟨by show (0:Int)<2147483647;decide,by show (2147483647:Int)<2^64;decide⟩,?_⟩
      refine ⟨_,_,rfl,rfl,?_⟩
      refine ⟨_,rfl,_,_,rfl,rfl,by show (0:Int)<(pr:Int);omega,?_⟩
      refine ⟨_,_,rfl,rfl,⟨by show (0:Int)<61;decide,by show (61:Int)<2^64;decide⟩,?_⟩
      refine ⟨_,rfl,_,_,rfl,rfl,by show (0:Int)<(n:Int);omega,?_⟩
      obtain ⟨r,hr',er⟩:=modn (x:=((on:Int)^(5:Int).toNat%2147483647*(2*((t+1:Nat):Int)+1)+(x:Int)/2147483647)%(pr:Int)/61) hn
      dsimp only
      rw [er]
      exact q r H3 hr' ⟨[],x,t+1,h1',h2'⟩ h3'
    · intro D' hrt _ _ hD
      refine ⟨_,rfl,a,_,_,_,rfl,rfl,SqL.of ha,rfl,szl 0,fun l hl=>?_⟩
      have nla:a≠l:=yae ha hl
      have nlg:g≠l:=yae hg hl
      have hg1:(upd H' l (.lst [])) g=some (.lst (ns.map Vn)):=by rw [zag nlg];exact hg
      have ha1:(upd H' l (.lst [])) a=some (.lst [.ref g,Vn x,Vn t]):=by rw [zag nla];exact ha
      have sm1:yar a g H (upd H' l (.lst [])):=sm.trans (Same.x (zac hl _))
      refine ⟨g,l,_,rfl,rfl,SqL.of hg1,SqL.of zab,_,rfl,?_⟩
      refine ite2 (fun c=>?_) (fun c=>?_)
      · cases ns with
        | nil=>exact absurd c (by simp)
        | cons d ns =>
          refine ⟨_,rfl,a,_,_,_,rfl,rfl,SqL.of ha1,rfl,?_⟩
          refine ⟨g,_,_,_,rfl,rfl,SqL.of hg1,zdb _ _,?_⟩
          refine ⟨_,rfl,_,_,rfl,rfl,by show (0:Int)<(n:Int);omega,?_⟩
          refine ⟨_,rfl,a,_,_,_,rfl,rfl,SqL.of ha1,rfl,?_⟩
          refine ⟨g,_,_,_,rfl,rfl,SqL.of hg1,zdb _ _,?_⟩
          refine ⟨_,rfl,_,_,rfl,rfl,⟨by show (0:Int)<(n:Int);omega,by show (n:Int)<2^1000;omega⟩,?_⟩
          refine ⟨_,rfl,a,_,_,_,rfl,rfl,SqL.of ha1,rfl,?_⟩
          refine ⟨g,_,0,0,rfl,rfl,hg1,yen (by simp),?_⟩
          refine ⟨_,rfl,?_⟩
          rw [hrt]
          refine q (d%n) _ (Nat.mod_lt _ hn) ⟨(d/n)::ns,x,t,by rw [zag nag];exact ha1,zab⟩ fun b o n1 n2 e=>by rw [zag n2];exact sm1 b o n1 n2 e
      · cases ns with
        | nil=>exact hD _ _ ⟨rfl,rfl,ha1,hg1,sm1⟩
        | cons d ns=>exact absurd (by simp) c
  · intro D' _ _ _ hD
    refine zaN (fun σ H'=>σ=[some (.ref a),some (Vn n),none,none,none,none,none]∧Pu H' a g∧yar a g H H') (fun _ H'=>yca H' g) ⟨rfl,hP,yar.refl⟩ ?_
    rintro σ H' ⟨rfl,⟨ns,x,t,ha,hg⟩,sm⟩
    refine ⟨_,rfl,a,_,_,_,rfl,rfl,SqL.of ha,rfl,szl 0,fun l hl=>?_⟩
    have nla:a≠l:=yae ha hl
    have nlg:g≠l:=yae hg hl
    have hg1:(upd H' l (.lst [])) g=some (.lst (ns.map Vn)):=by rw [zag nlg];exact hg
    have ha1:(upd H' l (.lst [])) a=some (.lst [.ref g,Vn x,Vn t]):=by rw [zag nla];exact ha
    have sm1:yar a g H (upd H' l (.lst [])):=sm.trans (Same.x (zac hl _))
    refine ⟨g,l,_,rfl,rfl,SqL.of hg1,SqL.of zab,_,rfl,?_⟩
    refine ite2 (fun c=>?_) (fun c=>?_)
    · cases ns with
      | nil=>exact absurd c (by simp)
      | cons d ns =>
        refine ⟨_,rfl,a,_,_,_,rfl,rfl,SqL.of ha1,rfl,?_⟩
        refine ⟨g,_,_,_,rfl,rfl,SqL.of hg1,zdb _ _,?_⟩
        refine ⟨rfl,_,rfl,?_⟩
        refine ite2 (fun c=>?_) (fun c=>?_)
        · refine ⟨fun σ' H''=>σ'=[some (.ref a),some (Vn n),none,none,none,none,none]∧H''=upd (upd H' l (.lst [])) g (.lst (ns.map Vn)),?_,?_⟩
          · rintro σ' H'' ⟨rfl,rfl⟩
            refine ⟨_,?_,rfl,rfl,⟨ns,x,t,by rw [zag nag];exact ha1,zab⟩,fun b o n1 n2 e=>by rw [zag n2];exact sm1 b o n1 n2 e⟩
            rw [ybg hg,ybg (xs:=ns.map Vn) zab];simp
          · refine ⟨_,rfl,a,_,_,_,rfl,rfl,SqL.of ha1,rfl,.inl ⟨rfl,_,SqL.of hg1⟩,?_⟩
            exact ⟨g,_,0,0,Vn d,rfl,rfl,hg1,by decide,by decide,(zdO (yen (by simp))).1,rfl,rfl,rfl⟩
        · exact hD _ _ ⟨rfl,⟨d::ns,x,t,ha1,hg1⟩,sm1⟩
    · refine ite2 (fun c2=>absurd c2 (by decide)) (fun _=>?_)
      exact hD _ _ ⟨rfl,⟨ns,x,t,ha1,hg1⟩,sm1⟩
end
end My
end
section
-- text: P3
namespace My
open PySem L2 Dg
local macro_rules | `(tactic| walk_at "rd") => `(tactic| repeat (first | refine ⟨_, rfl, ?_⟩ | refine ⟨_, _, rfl, rfl, ?_⟩))
def sumN:Nat→(Nat→Nat)→Nat
  | 0,_=>0
  | n+1,g=>sumN n g+g n
theorem zcP:∀(n:Nat) (g:Nat→Nat),sumN (n+1) g=g 0+sumN n fun j=>g (j+1)
  | 0,g=>by simp [sumN]
  | n+1,g=>by rw [sumN,zcP n g,sumN];omega
theorem zev {n:Nat} {g h:Nat→Nat} (e:∀j,j<n→g j=h j):sumN n g=sumN n h:=by
  induction n with
  | zero=>rfl
  | succ n ih=>rw [sumN,sumN,ih fun j hj=>e j (by omega),e n (by omega)]
def shN (j:Nat) (y:Nat→Nat) (i:Nat):Nat:=if j≤i then y (i-j) else 0
theorem ydz:∀(k:Nat) (f y:Nat→Nat) (i:Nat),zdc k f y i=sumN k fun j=>f j*shN j y i
  | 0,_,_,_=>rfl
  | k+1,f,y,i=>by
    rw [zcP]
    show f 0*y i+yaJ (zdc k (fun j=>f (j+1)) y) i=f 0*shN 0 y i+_
    congr 1
    unfold yaJ
    by_cases h:i=0
    · rw [if_pos h]
      subst h
      have:∀n,sumN n (fun j=>f (j+1)*shN (j+1) y 0)=0:=fun n=>by
        induction n with
        | zero=>rfl
        | succ n ih=>rw [sumN,ih];unfold shN;rw [if_neg (by omega)];simp
      exact (this k).symm
    · rw [if_neg h,ydz k]
      refine zev fun j _=>?_
      congr 1
      unfold shN
      by_cases h2:j+1≤i
      · rw [if_pos h2,if_pos (by omega)];congr 1;omega
      · rw [if_neg h2,if_neg (by omega)]
def rowL (p n:Nat) (c:Nat→Nat):List V:=(List.range n).map fun i=>Vn (c i%p)
theorem ybB (p n:Nat) (c:Nat→Nat):(rowL p n c).length=n:=by simp [rowL]
theorem zc2 {p n:Nat} (c:Nat→Nat) {i:Nat} (h:i<n):(rowL p n c)[i]?=some (Vn (c i%p)):=by
  unfold rowL;rw [List.getElem?_map,List.getElem?_range h];rfl
theorem zdV {p n:Nat} (c:Nat→Nat) {i:Nat} {j:Int} (h:i<n) (e:j=(i:Int)):atI (rowL p n c) j=some (Vn (c i%p)):=by
  subst e;exact ybc (zc2 c h)
theorem ybo {p n:Nat} {c c':Nat→Nat} (h:∀i,i<n→c i%p=c' i%p):rowL p n c=rowL p n c':=by
  unfold rowL
  refine List.map_congr_left fun i hi=>?_
  rw [h i (List.mem_range.mp hi)]
theorem yfY {p n:Nat} (c:Nat→Nat) {s v:Nat} (h:s<n):(rowL p n c).set s (Vn (v%p))=rowL p n fun i=>if i=s then v else c i:=by
  refine List.ext_getElem? fun i=>?_
  by_cases hi:i<n
  · rw [zc2 _ hi,List.getElem?_set]
    by_cases e:s=i
    · subst e;rw [if_pos rfl,if_pos (by rw [ybB];exact hi),if_pos rfl]
    · rw [if_neg e,zc2 _ hi,if_neg (Ne.symm e)]
  · rw [List.getElem?_eq_none (by rw [List.length_set,ybB];omega),List.getElem?_eq_none (by rw [ybB];omega)]
theorem yeR {p n:Nat} {c:Nat→Nat} {s v:Nat} (h:s<n) {c':Nat→Nat} (hc:∀i,i<n→c' i%p=(if i=s then c s%p+v else c i)%p):(rowL p n c).set s (Vn ((c s%p+v)%p))=rowL p n c' :=
  (yfY c h).trans (ybo fun i hi=>(hc i hi).symm)
theorem yeL {n s:Nat} {j:Int} (h:s<n) (e:j=(s:Int)):ixN n j=some s:=by
  subst e
  unfold ixN
  rw [if_pos (by omega),if_pos (by omega)];simp
theorem zfD (p k:Nat) (hp:0<p):(List.replicate k [V.int 0]).flatten=rowL p k fun _=>0:=by
  induction k with
  | zero=>rfl
  | succ k ih =>
    rw [List.replicate_succ',List.flatten_append,ih]
    unfold rowL
    rw [List.range_succ,List.map_append]
    simp
section
variable {P:Program} {w:World} {K:PySem.W.Frag} {mg:Str→Option Value} {base:Heap} {f:Addr} {fd:FuncData}
def zbZ (K:PySem.W.Frag):Sp:=fun vs H Q _=>∃(a:Addr) (p m t x y:Nat),vs=[.ref a,.int x,.int y]∧Fld K H a p m t∧2≤p∧1≤m∧p^m≤64∧t<p^m∧x<p^m∧y<p^m∧
  ∀(r:Nat) H',Same H H'→r<p^m→(∀i,i<m→dg p i r=tn m (fun i=>dg p i t) m (fun i=>dg p i x) (fun i=>dg p i y) i%p)→Q (.int r) H'
theorem zc3 {p m x i:Nat} (h:i<m):(digL p m x)[i]?=some (Vn (dg p i x)):=by
  unfold digL;rw [List.getElem?_map,List.getElem?_range h];rfl
theorem yfw {l:Addr} {H H':Hp} {o:HO} (h:yar l l H H'):yar l l H (upd H' l o):=fun b u n1 n2 e=>by rw [zag n1];exact h b u n1 n2 e
theorem yfb {l p:Addr} {H H':Hp} {o:HO} (h:yar l l H H') (hp:H' p=none):yar l l H (upd H' p o):=h.trans (Same.x (zac hp o))
theorem ydg {l:Addr} {H H':Hp} (h:yar l l H H') (hl:H l=none):Same H H':=fun b o e=>h b o (yae e hl) (yae e hl) e
theorem zak:yaj ["_law_field_here","_law_one","_law_other","_law_p","_law_m","_law_top","_law_row","_law_j","_law_digit","_law_k","_law_by","_law_place","_law_at"] ["_law_field_here","_law_one","_law_other"] (zad zaz):=⟨rfl,rfl,rfl,by decide +kernel,rfl,by decide +kernel,by decide +kernel⟩
theorem yet (B:Bl mg) (h__law_digits:Has P w K mg base 1 "_law_digits" ["_law_field_here","_law_thing"] (ydq K)) (h__law_number:Has P w K mg base 1 "_law_number" ["_law_field_here","_law_digits_here"] (ydi K)) (F:Fun K "_law_product" "_law_product" zaz f fd):FnOk P w K mg base CX0 2 f fd ["_law_field_here","_law_one","_law_other"] (zbZ K):=by
  refine F.ok zak (fun vs H Q E h=>?_) (fun cdv A outer s H vs Q E hr h=>?_)
  · obtain ⟨a,p,m,t,x,y,rfl,_⟩:=h;rfl
  obtain ⟨a,p,m,t,x,y,rfl,hF,hp,hm,hpm,ht,hx,hy,q⟩:=h
  have hp2:=p_le hp hm hpm
  have hm6:=m_le hp hpm
  refine ⟨_,(@yaa _ _ _ _ _ (@zbd _ _ _ _ _ _ (pv 0) (@ybe _ _ _ _ _ _ rfl (@zah _ _ _ _ _ (@zaf _ _ 3 _ zak.nd rfl (Or.inl rfl) (by trivial)) (@zah _ _ _ _ _ (@zaf _ _ 4 _ zak.nd rfl (Or.inl rfl) (by trivial)) (@zah _ _ _ _ _ (@zaf _ _ 5 _ zak.nd rfl (Or.inl rfl) (by trivial)) zaL ⋯) ⋯) ⋯) ⋯ ⋯) ⋯ ⋯ ⋯) (@yaa _ _ _ _ _ (@yaf _ _ 6 _ _ _ _ zak.nd rfl (Or.inl rfl) (@yag _ _ _ _ _ _ _ _ zee (@zaK _ _ _ _ (@zaa _ _ _ _ _ yac yab ⋯)) (@yag _ _ _ _ _ _ _ _ yaU (@yag _ _ _ _ _ _ _ _ ya4 yac (pv 4)) yac)) ⋯ (by trivial)) (@yaa _ _ _ _ _ (@zaU _ _ _ _ _ _ _ _ PassesOwn.never rfl (@ybJ _ _ _ _ _ _ _ _ rfl (B "enumerate" (by decide)) (@zaa _ _ _ _ _ (@yad _ _ _ _ _ _ _ _ _ _ _ h__law_digits hr (by decide) rfl (@zaa _ _ _ _ _ (pv 0) (@zaa _ _ _ _ _ (pv 1) yab ⋯) ⋯) (by decide) ⋯ ⋯) yab ⋯) ⋯) (@ybe _ _ _ _ _ _ rfl (@zah _ _ _ _ _ (@zaf _ _ 7 _ zak.nd rfl (Or.inl rfl) (by trivial)) (@zah _ _ _ _ _ (@zaf _ _ 8 _ zak.nd rfl (Or.inl rfl) (by trivial)) zaL ⋯) ⋯) ⋯ ⋯) (@zae _ _ _ (@zaU _ _ _ _ _ _ _ _ PassesOwn.never rfl (@ybJ _ _ _ _ _ _ _ _ rfl (B "enumerate" (by decide)) (@zaa _ _ _ _ _ (@yad _ _ _ _ _ _ _ _ _ _ _ h__law_digits hr (by decide) rfl (@zaa _ _ _ _ _ (pv 0) (@zaa _ _ _ _ _ (pv 2) yab ⋯) ⋯) (by decide) ⋯ ⋯) yab ⋯) ⋯) (@ybe _ _ _ _ _ _ rfl (@zah _ _ _ _ _ (@zaf _ _ 9 _ zak.nd rfl (Or.inl rfl) (by trivial)) (@zah _ _ _ _ _ (@zaf _ _ 10 _ zak.nd rfl (Or.inl rfl) (by trivial)) zaL ⋯) ⋯) ⋯ ⋯) (@zae _ _ _ (@zbd _ _ _ _ _ _ (@yag _ _ _ _ _ _ _ _ yaB (@yag _ _ _ _ _ _ _ _ yas (@zao _ _ _ _ _ _ _ yan (pv 6) (@yag _ _ _ _ _ _ _ _ yas (pv 7) (pv 9)) (fun _ _=>rfl)) (@yag _ _ _ _ _ _ _ _ ya4 (pv 8) (pv 10))) (pv 3)) (@zck _ _ _ _ _ _ _ (pv 6) (@yag _ _ _ _ _ _ _ _ yas (pv 7) (pv 9)) zbq (by intro _;rfl)) ⋯ ⋯ ⋯)) (by intro _;rfl))) (by intro _;rfl)) (@yaa _ _ _ _ _ (@zaU _ _ _ _ _ _ _ _ PassesOwn.never rfl (@zgn _ _ _ _ _ _ _ _ rfl (B "range" (by decide)) (@zaa _ _ _ _ _ (@yag _ _ _ _ _ _ _ _ yaU (@yag _ _ _ _ _ _ _ _ ya4 yac (pv 4)) yac) (@zaa _ _ _ _ _ (@yag _ _ _ _ _ _ _ _ yaU (pv 4) yac) (@zaa _ _ _ _ _ (@yd3 _ _ _ _ _ _ ycA yac) yab ⋯) ⋯) ⋯) ⋯ ⋯) (@zaf _ _ 11 _ zak.nd rfl (Or.inl rfl) (by trivial)) (@zae _ _ _ (@zaU _ _ _ _ _ _ _ _ PassesOwn.never rfl (@ybJ _ _ _ _ _ _ _ _ rfl (B "enumerate" (by decide)) (@zaa _ _ _ _ _ (@yad _ _ _ _ _ _ _ _ _ _ _ h__law_digits hr (by decide) rfl (@zaa _ _ _ _ _ (pv 0) (@zaa _ _ _ _ _ (pv 5) yab ⋯) ⋯) (by decide) ⋯ ⋯) yab ⋯) ⋯) (@ybe _ _ _ _ _ _ rfl (@zah _ _ _ _ _ (@zaf _ _ 9 _ zak.nd rfl (Or.inl rfl) (by trivial)) (@zah _ _ _ _ _ (@zaf _ _ 8 _ zak.nd rfl (Or.inl rfl) (by trivial)) zaL ⋯) ⋯) ⋯ ⋯) (@yaa _ _ _ _ _ (@yaf _ _ 12 _ _ _ _ zak.nd rfl (Or.inl rfl) (@yag _ _ _ _ _ _ _ _ yas (@yag _ _ _ _ _ _ _ _ yaU (pv 11) (pv 4)) (pv 9)) ⋯ (by trivial)) (@zae _ _ _ (@zbd _ _ _ _ _ _ (@yag _ _ _ _ _ _ _ _ yaB (@yag _ _ _ _ _ _ _ _ yas (@zao _ _ _ _ _ _ _ yan (pv 6) (pv 12) (fun _ _=>rfl)) (@yag _ _ _ _ _ _ _ _ ya4 (@zao _ _ _ _ _ _ _ yan (pv 6) (pv 11) (fun _ _=>rfl)) (pv 8))) (pv 3)) (@zck _ _ _ _ _ _ _ (pv 6) (pv 12) zbq (by intro _;rfl)) ⋯ ⋯ ⋯))) (by intro _;rfl))) (by intro _;rfl)) (@zae _ _ _ (@yal _ _ _ _ (@yad _ _ _ _ _ _ _ _ _ _ _ h__law_number hr (by decide) rfl (@zaa _ _ _ _ _ (pv 0) (@zaa _ _ _ _ _ (@zcf _ _ _ _ _ _ _ _ _ _ zdS (pv 6) zde (@ydb _ _ _ (pv 4))) yab ⋯) ⋯) (by decide) ⋯ ⋯))))))),?_⟩
  refine ⟨_,rfl,a,_,rfl,hF,rfl,_,_,rfl,_,_,rfl,_,_,rfl,rfl,?_⟩
  refine ⟨szl 1,fun l0 hl0=>?_⟩
  refine ⟨_,rfl,_,_,rfl,rfl,.inl ⟨by decide,by decide⟩,?_⟩
  refine ⟨_,_,rfl,rfl,?_⟩
  have e21:(2*(m:Int)-1).toNat=2*m-1:=by omega
  refine ⟨l0,_,_,rfl,rfl,zab,by show -(2^63)≤2*(m:Int)-1;omega,by show 2*(m:Int)-1<2^63;omega,?_,fun l hl=>?_⟩
  · show 1*(2*(m:Int)-1).toNat≤sizeLine
    rw [e21];exact szl _
  dsimp only
  rw [e21,zfD p _ (by omega)]
  have hlH:H l=none:=(zac hl0 (.lst [.int 0])).free hl
  refine yba (fun σ H'=>∃s7 s8 s9 s10 s11 s12,σ=[some (.ref a),some (Vn x),some (Vn y),some (Vn p),some (Vn m),some (Vn t),some (.ref l),s7,s8,s9,s10,s11,s12]∧yar l l H H'∧H' l=some (.lst (rowL p (2*m-1) (zdc m (fun i=>dg p i x) fun i=>dg p i y)))) ?_ ?_
  · rintro σ H' ⟨s7,s8,s9,s10,s11,s12,rfl,sx,hrow⟩
    refine yba (fun σ H'=>∃s7 s8 s9 s10 s11 s12,σ=[some (.ref a),some (Vn x),some (Vn y),some (Vn p),some (Vn m),some (Vn t),some (.ref l),s7,s8,s9,s10,s11,s12]∧yar l l H H'∧∃c:Nat→Nat,H' l=some (.lst (rowL p (2*m-1) c))∧∀i,i<m→c i=tn m (fun i=>dg p i t) m (fun i=>dg p i x) (fun i=>dg p i y) i) ?_ ?_
    · rintro σ H' ⟨s7,s8,s9,s10,s11,s12,rfl,sx,c,hrow,hc⟩
      refine ⟨_,rfl,_,rfl,_,rfl,_,rfl,l,_,rfl,SqL.of hrow,fun l2 hl2=>?_⟩
      have sm2:Same H (upd H' l2 (.lst (cutV (rowL p (2*m-1) c) none (some (m:Int))))):=(ydg sx hlH).trans (zac hl2 _)
      refine ⟨a,l2,p,m,t,(List.range m).map fun i=>c i%p,rfl,Same.tup sm2 hF,hp,hp2,?_,fun H3 s3=>?_⟩
      · refine SqL.of ?_
        rw [zab]
        congr 2
        unfold cutV
        rw [HT.sIx_none,show HT.sIx (rowL p (2*m-1) c).length (rowL p (2*m-1) c).length (some (m:Int))=min m (rowL p (2*m-1) c).length from HT.sIx_nat _ _ m,ybB,List.drop_zero,show min m (2*m-1)-0=m by omega]
        unfold rowL
        rw [←List.map_take,List.take_range,List.map_map,show min m (2*m-1)=m by omega]
        rfl
      · have hds:∀d∈(List.range m).map (fun i=>c i%p),d<p:=fun d hd=>by
          obtain ⟨i,_,rfl⟩:=List.mem_map.mp hd
          exact Nat.mod_lt _ (by omega)
        have hg:∀i,((List.range m).map fun i=>c i%p).getD i 0=if i<m then c i%p else 0:=fun i=>by
          by_cases hi:i<m
          · rw [if_pos hi,List.getD,List.getElem?_map,List.getElem?_range hi];rfl
          · rw [if_neg hi,List.getD,List.getElem?_eq_none (by simpa using hi)];rfl
        refine q _ _ (sm2.trans s3) (yb2 hp fun i hi=>?_) fun i hi=>?_
        · rw [ze8 hp _ hds,hg,if_neg (by omega)]
        · rw [ze8 hp _ hds,hg,if_pos hi,hc i hi]
    · intro D' _ _ _ hD
      refine ⟨_,rfl,_,_,rfl,rfl,.inl ⟨by decide,by decide⟩,?_⟩
      refine ⟨_,_,rfl,rfl,?_⟩
      refine ⟨_,rfl,_,_,rfl,rfl,?_⟩
      refine ⟨_,rfl,?_⟩
      refine ⟨2*(m:Int)-2,(m:Int)-1,rfl,⟨by omega,by omega,by omega,by omega⟩,?_⟩
      refine za4 ydo (fun i σ H'=>∃s7 s8 s9 s10 s11 s12,σ=[some (.ref a),some (Vn x),some (Vn y),some (Vn p),some (Vn m),some (Vn t),some (.ref l),s7,s8,s9,s10,s11,s12]∧yar l l H H'∧∃c:Nat→Nat,H' l=some (.lst (rowL p (2*m-1) c))∧
        redF m (fun i=>dg p i t) (m-1-i) c=redF m (fun i=>dg p i t) (m-1) (zdc m (fun i=>dg p i x) fun i=>dg p i y)) ⟨s7,s8,s9,s10,s11,s12,rfl,sx,_,hrow,rfl⟩ (fun _ _ _ _ _=>trivial) ?_ ?_
      · rintro i v σ H' H'' hi ⟨s7,s8,s9,s10,s11,s12,rfl,sx,c,hrow,hred⟩ ⟨rfl,rfl⟩
        obtain ⟨j,hj⟩:∃j,m-1-i=j+1:=⟨m-1-i-1,by omega⟩
        have eq:V.int (2*(m:Int)-2-(i:Int))=Vn (m+j):=by show V.int _=V.int _;congr 1;omega
        have hq:m+j<2*m-1:=by omega
        dsimp only [zau]
        rw [eq]
        refine ⟨_,rfl,_,rfl,a,p,m,t,t,rfl,Same.tup (ydg sx hlH) hF,hp,hp2,by omega,fun b2 H2 hb2' s2 e2=>?_⟩
        have nb2:b2≠l:=fun e=>by rw [e,hrow] at hb2';cases hb2'
        refine ⟨false,b2,rfl,⟨_,SqL.of e2⟩,?_⟩
        refine za4 (zbb (K:=K) (b:=false) (l:=b2) (xs:=digL p m t)) (fun k σ H'=>∃s7 s8 s9 s10 s12,σ=[some (.ref a),some (Vn x),some (Vn y),some (Vn p),some (Vn m),some (Vn t),some (.ref l),s7,s8,s9,s10,some (Vn (m+j)),s12]∧yar l l H H'∧H' b2=some (.lst (digL p m t))∧
          H' l=some (.lst (rowL p (2*m-1) fun i=>c i+if j≤i∧i<j+k then c (m+j)*dg p (i-j) t else 0))) ⟨s7,s8,s9,s10,s12,rfl,sx.trans (Same.x s2),e2,?_⟩ ?_ ?_ ?_
        · rw [s2 _ _ hrow]
          congr 2
          refine ybo fun i _=>?_
          rw [if_neg (by omega)];rfl
        · rintro i σ H' _ ⟨s7,s8,s9,s10,s12,rfl,_,h,_⟩;exact SqL.of h
        · rintro k v σ H' H'' hk ⟨s7,s8,s9,s10,s12,rfl,sx,hc,hrow⟩ ⟨T,u,rfl,eu,hT,rfl⟩
          rw [ybr] at hk
          rw [zc3 hk] at eu;cases eu
          refine ⟨T,_,rfl,SqT.of zab,rfl,_,_,rfl,_,_,rfl,rfl,?_⟩
          have sx3:yar l l H (upd H' T (.tup [.int k,Vn (dg p k t)])):=yfb sx hT
          have hc3:(upd H' T (.tup [.int k,Vn (dg p k t)])) b2=some (.lst (digL p m t)):=by rw [zag (yae hc hT)];exact hc
          have hr3:=(zag (o:=.tup [.int k,Vn (dg p k t)]) (yae hrow hT)).trans hrow
          generalize upd H' T (.tup [.int k,Vn (dg p k t)])=G at sx3 hc3 hr3 ⊢
          have hjk:j+k<2*m-1:=by omega
          have hmp:∀z,z%p<p:=fun z=>Nat.mod_lt _ (by omega)
          refine ⟨_,rfl,_,rfl,_,_,rfl,rfl,?_⟩
          refine ⟨_,rfl,_,_,rfl,rfl,?_⟩
          have eat:V.int (((m+j:Nat):Int)-(m:Int)+((k:Nat):Int))=Vn (j+k):=by show V.int _=V.int _;congr 1;omega
          dsimp only [zau]
          rw [eat]
          refine ⟨_,rfl,_,rfl,l,_,_,_,rfl,rfl,SqL.of hr3,zdV _ hjk rfl,?_⟩
          refine ⟨_,rfl,_,rfl,l,_,_,_,rfl,rfl,SqL.of hr3,zdV _ hq rfl,?_⟩
          have hmq:=hmp (c (m+j)+if j≤m+j∧m+j<j+k then c (m+j)*dg p (m+j-j) t else 0)
          refine ⟨_,rfl,_,_,rfl,rfl,.inl ⟨by omega,by omega⟩,?_⟩
          refine ⟨_,_,rfl,rfl,?_⟩
          refine ⟨_,rfl,_,_,rfl,rfl,by show (0:Int)<(p:Int);omega,?_⟩
          refine ⟨_,rfl,_,rfl,?_⟩
          refine ⟨l,_,_,j+k,rfl,rfl,hr3,yeL (by rw [ybB];exact hjk) rfl,?_⟩
          refine ⟨s7,_,_,s10,_,rfl,yfw sx3,by rw [zag nb2];exact hc3,?_⟩
          rw [zab]
          congr 2
          refine yeR (v:=(c (m+j)+if j≤m+j∧m+j<j+k then c (m+j)*dg p (m+j-j) t else 0)%p*dg p k t) hjk fun i hi=>?_
          by_cases e:i=j+k
          · subst e
            rw [if_pos rfl,if_pos (by omega),if_neg (by omega),if_neg (by omega),Nat.add_zero,Nat.add_zero,show j+k-j=k by omega,Nat.mod_add_mod]
            exact ybq rfl (zcW (Nat.mod_mod _ _).symm rfl)
          · rw [if_neg e]
            congr 2
            by_cases h2:j≤i∧i<j+k
            · rw [if_pos h2,if_pos (by omega)]
            · rw [if_neg h2,if_neg (by omega)]
        · rintro σ H' ⟨s7,s8,s9,s10,s12,rfl,sx,hc,hrow⟩
          refine ⟨s7,s8,s9,s10,_,s12,rfl,sx,_,hrow,?_⟩
          rw [←hred,hj,show m-1-(i+1)=j by omega]
          show _=redF m (fun i=>dg p i t) j (zbs m (fun i=>dg p i t) (m+j) c)
          congr 1
          funext z
          unfold zbs
          rw [ybr,show m+j-m=j by omega]
          congr 1
          by_cases h2:j≤z∧z<j+m
          · rw [if_pos h2,if_pos (by omega)]
          · rw [if_neg h2,if_neg (by omega)]
      · rintro σ H' ⟨s7,s8,s9,s10,s11,s12,rfl,sx,c,hrow,hred⟩
        refine hD _ _ ⟨s7,s8,s9,s10,s11,s12,rfl,sx,c,hrow,fun i hi=>?_⟩
        rw [show m-1-(2*(m:Int)-2-((m:Int)-1)).toNat=0 by omega] at hred
        have e:=congrFun hred i
        have e2:=zeb (t:=fun i=>dg p i t) hm (m-1) (fun i=>dg p i x) (fun i=>dg p i y) (fun z hz=>zas hp hy hz) i hi
        rw [show m-1+1=m by omega] at e2
        exact e.trans e2
  · intro D' _ _ _ hD
    refine ⟨_,rfl,_,rfl,a,p,m,t,x,rfl,Same.tup ((zac hl0 _).trans (zac hl _)) hF,hp,hp2,by omega,fun b1 H1 hb1 s1 e1=>?_⟩
    have hl1:H1 l=some (.lst (rowL p (2*m-1) fun _=>0)):=s1 _ _ zab
    have nb1:b1≠l:=fun e=>by rw [e,zab] at hb1;cases hb1
    have sx1:yar l l H H1:=Same.x (((zac hl0 _).trans (zac hl _)).trans s1)
    refine ⟨false,b1,rfl,⟨_,SqL.of e1⟩,?_⟩
    refine za4 (zbb (K:=K) (b:=false) (l:=b1) (xs:=digL p m x)) (fun j σ H'=>∃s7 s8 s9 s10 s11 s12,σ=[some (.ref a),some (Vn x),some (Vn y),some (Vn p),some (Vn m),some (Vn t),some (.ref l),s7,s8,s9,s10,s11,s12]∧yar l l H H'∧H' b1=some (.lst (digL p m x))∧
      H' l=some (.lst (rowL p (2*m-1) fun i=>sumN j fun j'=>dg p j' x*shN j' (fun i=>dg p i y) i))) ⟨none,none,none,none,none,none,rfl,sx1,e1,hl1⟩ ?_ ?_ ?_
    · rintro i σ H' _ ⟨s7,s8,s9,s10,s11,s12,rfl,_,h,_⟩;exact SqL.of h
    · rintro j v σ H' H'' hj ⟨s7,s8,s9,s10,s11,s12,rfl,sx,hb,hrow⟩ ⟨T,u,rfl,eu,hT,rfl⟩
      rw [ybr] at hj
      rw [zc3 hj] at eu;cases eu
      refine ⟨T,_,rfl,SqT.of zab,rfl,_,_,rfl,_,_,rfl,rfl,?_⟩
      have sx2:yar l l H (upd H' T (.tup [.int j,Vn (dg p j x)])):=yfb sx hT
      have hb2:(upd H' T (.tup [.int j,Vn (dg p j x)])) b1=some (.lst (digL p m x)):=by rw [zag (yae hb hT)];exact hb
      have hr2:(upd H' T (.tup [.int j,Vn (dg p j x)])) l=some (.lst (rowL p (2*m-1) fun i=>sumN j fun j'=>dg p j' x*shN j' (fun i=>dg p i y) i)):=by rw [zag (yae hrow hT)];exact hrow
      generalize upd H' T (.tup [.int j,Vn (dg p j x)])=G at sx2 hb2 hr2 ⊢
      refine ⟨_,rfl,_,rfl,a,p,m,t,y,rfl,Same.tup (ydg sx2 hlH) hF,hp,hp2,by omega,fun b2 H2 hb2' s2 e2=>?_⟩
      have nb2:b2≠l:=fun e=>by rw [e,hr2] at hb2';cases hb2'
      refine ⟨false,b2,rfl,⟨_,SqL.of e2⟩,?_⟩
      refine za4 (zbb (K:=K) (b:=false) (l:=b2) (xs:=digL p m y)) (fun k σ H'=>∃s9 s10 s11 s12,σ=[some (.ref a),some (Vn x),some (Vn y),some (Vn p),some (Vn m),some (Vn t),some (.ref l),some (Vn j),some (Vn (dg p j x)),s9,s10,s11,s12]∧yar l l H H'∧H' b1=some (.lst (digL p m x))∧H' b2=some (.lst (digL p m y))∧
        H' l=some (.lst (rowL p (2*m-1) fun i=>sumN j (fun j'=>dg p j' x*shN j' (fun i=>dg p i y) i)+if j≤i∧i<j+k then dg p j x*dg p (i-j) y else 0))) ⟨s9,s10,s11,s12,rfl,sx2.trans (Same.x s2),s2 _ _ hb2,e2,?_⟩ ?_ ?_ ?_
      · rw [s2 _ _ hr2]
        congr 2
        refine ybo fun i _=>?_
        rw [if_neg (by omega)];rfl
      · rintro i σ H' _ ⟨s9,s10,s11,s12,rfl,_,_,h,_⟩;exact SqL.of h
      · rintro k v σ H' H'' hk ⟨s9,s10,s11,s12,rfl,sx,hb,hc,hrow⟩ ⟨T,u,rfl,eu,hT,rfl⟩
        rw [ybr] at hk
        rw [zc3 hk] at eu;cases eu
        refine ⟨T,_,rfl,SqT.of zab,rfl,_,_,rfl,_,_,rfl,rfl,?_⟩
        have sx3:yar l l H (upd H' T (.tup [.int k,Vn (dg p k y)])):=yfb sx hT
        have hb3:(upd H' T (.tup [.int k,Vn (dg p k y)])) b1=some (.lst (digL p m x)):=by rw [zag (yae hb hT)];exact hb
        have hc3:(upd H' T (.tup [.int k,Vn (dg p k y)])) b2=some (.lst (digL p m y)):=by rw [zag (yae hc hT)];exact hc
        have hr3:=(zag (o:=.tup [.int k,Vn (dg p k y)]) (yae hrow hT)).trans hrow
        generalize upd H' T (.tup [.int k,Vn (dg p k y)])=G at sx3 hb3 hc3 hr3 ⊢
        have d1:=zg6 hp j x
        have hjk:j+k<2*m-1:=by omega
        refine ⟨_,rfl,_,rfl,_,rfl,_,_,rfl,rfl,?_⟩
        refine ⟨l,_,_,_,rfl,rfl,SqL.of hr3,zdV _ hjk rfl,?_⟩
        refine ⟨_,rfl,_,rfl,_,_,rfl,rfl,.inl ⟨by show -(2^64:Int)<((dg p j x:Nat):Int);omega,by show ((dg p j x:Nat):Int)<2^64;omega⟩,?_⟩
        refine ⟨_,_,rfl,rfl,?_⟩
        refine ⟨_,rfl,_,_,rfl,rfl,by show (0:Int)<(p:Int);omega,?_⟩
        refine ⟨_,rfl,_,rfl,_,rfl,_,_,rfl,rfl,?_⟩
        refine ⟨l,_,_,j+k,rfl,rfl,hr3,yeL (by rw [ybB];exact hjk) rfl,?_⟩
        refine ⟨_,_,s11,s12,rfl,yfw sx3,by rw [zag nb1];exact hb3,by rw [zag nb2];exact hc3,?_⟩
        rw [zab]
        congr 2
        refine yeR (v:=dg p j x*dg p k y) hjk fun i hi=>?_
        by_cases e:i=j+k
        · subst e
          rw [if_pos rfl,if_pos (by omega),if_neg (by omega),Nat.add_zero,show j+k-j=k by omega,Nat.mod_add_mod]
        · rw [if_neg e]
          congr 2
          by_cases h2:j≤i∧i<j+k
          · rw [if_pos h2,if_pos (by omega)]
          · rw [if_neg h2,if_neg (by omega)]
      · rintro σ H' ⟨s9,s10,s11,s12,rfl,sx,hb,hc,hrow⟩
        refine ⟨_,_,s9,s10,s11,s12,rfl,sx,hb,?_⟩
        rw [hrow,ybr]
        congr 2
        refine ybo fun i _=>?_
        rw [sumN]
        congr 2
        unfold shN
        by_cases h1:j≤i
        · rw [if_pos h1]
          by_cases h2:i<j+m
          · rw [if_pos ⟨h1,h2⟩]
          · rw [if_neg (by omega)];show 0=dg p j x*dg p (i-j) y;rw [zas hp hy (by omega),Nat.mul_zero]
        · rw [if_neg h1,if_neg (by omega),Nat.mul_zero]
    · rintro σ H' ⟨s7,s8,s9,s10,s11,s12,rfl,sx,hb,hrow⟩
      refine hD _ _ ⟨s7,s8,s9,s10,s11,s12,rfl,sx,?_⟩
      rw [hrow,ybr]
      congr 2
      exact ybo fun i _=>by rw [ydz]
end
end My
end
section
-- text: P4
namespace My
open PySem L2 Dg
section
variable {P:Program} {w:World} {K:PySem.W.Frag} {mg:Str→Option Value} {base:Heap} {f:Addr} {fd:FuncData}
theorem yhk {b:Bool} (h:¬ (!b)=true):b=true:=by cases b <;> simp_all
def zeL (K:PySem.W.Frag):Sp:=fun vs H Q _=>∃(a:Addr) (p m t:Nat),vs=[.ref a]∧Fld K H a p m t∧2≤p∧1≤m∧p^m≤64∧t<p^m∧
  ∀(b:Bool) H',Same H H'→(b=true→∀x y,0<x→x<p^m→x<p^(m/2+1)→0<y→y<p^m→mul p m t x y≠0)→Q (.bl b) H'
theorem yax:yaj ["_law_field_here","_law_p","_law_m","_law_top","_law_many","_law_one"] ["_law_field_here"] (zad yaw):=⟨rfl,rfl,rfl,by decide +kernel,rfl,by decide +kernel,by decide +kernel⟩
theorem zgF (B:Bl mg) (h__law_raised:Has P w K mg base 1 "_law_raised" ["_law_one","_law_many"] yam) (h__law_product:Has P w K mg base 2 "_law_product" ["_law_field_here","_law_one","_law_other"] (zbZ K)) (F:Fun K "_law_is_good" "_law_is_good" yaw f fd):FnOk P w K mg base CX0 3 f fd ["_law_field_here"] (zeL K):=by
  refine F.ok yax (fun vs H Q E h=>?_) (fun cdv A outer s H vs Q E hr h=>?_)
  · obtain ⟨a,p,m,t,rfl,_⟩:=h;rfl
  obtain ⟨a,p,m,t,rfl,hF,hp,hm,hpm,ht,q⟩:=h
  have hp2:=p_le hp hm hpm
  have hm6:=m_le hp hpm
  have hpos:0<p^m:=Nat.pow_pos (by omega)
  refine ⟨_,(@yaa _ _ _ _ _ (@zbd _ _ _ _ _ _ (pv 0) (@ybe _ _ _ _ _ _ rfl (@zah _ _ _ _ _ (@zaf _ _ 1 _ yax.nd rfl (Or.inl rfl) (by trivial)) (@zah _ _ _ _ _ (@zaf _ _ 2 _ yax.nd rfl (Or.inl rfl) (by trivial)) (@zah _ _ _ _ _ (@zaf _ _ 3 _ yax.nd rfl (Or.inl rfl) (by trivial)) zaL ⋯) ⋯) ⋯) ⋯ ⋯) ⋯ ⋯ ⋯) (@yaa _ _ _ _ _ (@yaf _ _ 4 _ _ _ _ yax.nd rfl (Or.inl rfl) (@yad _ _ _ _ _ _ _ _ _ _ _ h__law_raised hr (by decide) rfl (@zaa _ _ _ _ _ (pv 1) (@zaa _ _ _ _ _ (pv 2) yab ⋯) ⋯) (by decide) ⋯ ⋯) ⋯ (by trivial)) (@yaa _ _ _ _ _ (@zaU _ _ _ _ _ _ _ _ PassesOwn.never rfl (@zbU _ _ _ _ _ _ _ rfl (B "range" (by decide)) (@zaa _ _ _ _ _ yac (@zaa _ _ _ _ _ (@zan _ _ _ _ _ _ _ _ _ (yfl rfl) rfl (B "min" (by decide)) ydU (@zaa _ _ _ _ _ (pv 4) (@zaa _ _ _ _ _ (@yad _ _ _ _ _ _ _ _ _ _ _ h__law_raised hr (by decide) rfl (@zaa _ _ _ _ _ (pv 1) (@zaa _ _ _ _ _ (@yag _ _ _ _ _ _ _ _ yas (@yag _ _ _ _ _ _ _ _ ydG (pv 2) yac) yac) yab ⋯) ⋯) (by decide) ⋯ ⋯) yab ⋯) ⋯) (by decide) (by decide) ⋯ ⋯) yab ⋯) ⋯) ⋯ ⋯) (@zaf _ _ 5 _ yax.nd rfl (Or.inr rfl) (by trivial)) (@zae _ _ _ (@zbe _ _ _ _ _ _ _ _ (@yg5 _ _ _ _ (@yf4 _ _ _ (@zan _ _ _ _ _ _ _ _ _ (yfL rfl) rfl (B "all" (by decide)) PyProof.Rows.boot_all (@zaa _ _ _ _ _ (@zbg _ _ _ _ _ _ _ ["_law_other"] ["_law_field_here","_law_one"] [0,5] _ _ _ _ (id (α:=CSc ["_law_field_here","_law_p","_law_m","_law_top","_law_many","_law_one"] (zad yaw) ["_law_other"] ["_law_field_here","_law_one"] [0,5] _) ⟨by rfl,by decide +kernel,by decide +kernel,by decide +kernel,by decide +kernel,by rfl,by decide +kernel⟩) rfl (@zbU _ _ _ _ _ _ _ rfl (B "range" (by decide)) (@zaa _ _ _ _ _ yac (@zaa _ _ _ _ _ (pv 4) yab ⋯) ⋯) ⋯ ⋯) (fun cl C fp s H=>(@zaf _ _ 0 _ (by show List.Nodup (["_law_other","_law_field_here","_law_one"]:List Str);decide +kernel) rfl (Or.inl rfl) (by trivial))) (fun _ _ _ _ _=>za6) (fun _ _ _ _ _=>(@ydR _ _ _ _ _ _ _ _ zbJ (@yad _ _ _ _ _ _ _ _ _ _ _ h__law_product hr (by decide) rfl (@zaa _ _ _ _ _ (pv 1) (@zaa _ _ _ _ _ (pv 2) (@zaa _ _ _ _ _ (pv 0) yab ⋯) ⋯) ⋯) (by decide) ⋯ ⋯) yac (zam _))) (by intro _;rfl)) yab ⋯) (by decide) (by decide) ⋯ ⋯) (by intro _;rfl))) (@zae _ _ _ (@yal _ _ _ _ zf2)) zaw)) (by intro _;rfl)) (@zae _ _ _ (@yal _ _ _ _ zf2))))),?_⟩
  refine ⟨_,rfl,a,_,rfl,hF,rfl,_,_,rfl,_,_,rfl,_,_,rfl,rfl,?_⟩
  refine ⟨_,rfl,_,rfl,p,m,rfl,hp2,by omega,?_⟩
  refine ⟨_,rfl,_,rfl,_,rfl,_,_,rfl,rfl,⟨by show (0:Int)<2;decide,by show (2:Int)<2^64;decide⟩,?_⟩
  refine ⟨_,_,rfl,rfl,?_⟩
  refine ⟨p,m/2+1,rfl,hp2,by omega,?_⟩
  refine ⟨_,_,rfl,?_⟩
  generalize hj:(if (((p^(m/2+1):Nat):Int)<((p^m:Nat):Int)) then ((p^(m/2+1):Nat):Int) else ((p^m:Nat):Int))=j
  have hj2:0≤j∧j≤((p^m:Nat):Int)∧∀x:Nat,x<p^m→x<p^(m/2+1)→(x:Int)<j:=by
    rw [←hj];split
    · exact ⟨by omega,by omega,fun x h1 h2=>by omega⟩
    · exact ⟨by omega,by omega,fun x h1 h2=>by omega⟩
  refine ⟨1,j,rfl,⟨by omega,by omega,by omega,by omega⟩,?_⟩
  refine zbl (fun i σ H'=>Same H H'∧(∀x y,0<x→x<1+i→0<y→y<p^m→mul p m t x y≠0)∧∃s,σ=[some (.ref a),some (Vn p),some (Vn m),some (Vn t),some (Vn (p^m)),s]) ⟨Same.refl _,fun x y h1 h2=>by omega,none,rfl⟩ ?_ ?_
  · rintro i σ H' hi ⟨sm,hno,s,rfl⟩
    refine ⟨_,rfl,1,((p^m:Nat):Int),rfl,⟨by omega,by omega,by omega,by omega⟩,?_⟩
    refine zaI ya9 (fun k acc H1=>Same H H1∧acc=((List.range k).map fun j=>decide (0<mul p m t (1+i) (1+j))).map V.bl) ⟨sm,rfl⟩ (fun _ _ _ _ _=>trivial) ?_ ?_ ?_
    · rintro k acc H1 hk ⟨_,rfl⟩
      rw [List.length_map,List.length_map,List.length_range];exact Nat.lt_of_le_of_lt (show k≤1000 by omega) (yap (Nat.le_refl _))
    · rintro k acc x H1 H2 hk ⟨sm1,rfl⟩ ⟨rfl,rfl⟩
      refine ⟨_,rfl,_,rfl,_,rfl,a,p,m,t,1+i,1+k,rfl,Same.tup sm1 hF,hp,hm,hpm,ht,by omega,by omega,fun r H3 s3 br hr=>?_⟩
      have e:=zbO hp hm br hr
      subst e
      refine ⟨_,_,rfl,rfl,sm1.trans s3,?_⟩
      rw [List.range_succ,List.map_append,List.map_append]
      refine congrArg (_++[V.bl ·]) ?_
      show decide ((0:Int)<((mul p m t (1+i) (1+k):Nat):Int))=decide (0<mul p m t (1+i) (1+k))
      exact decide_eq_decide.mpr (by omega)
    · rintro acc H1 ⟨sm1,rfl⟩ D hD
      refine ⟨D,_,rfl,SqL.of zab,_,rfl,?_⟩
      refine ite2 (fun c=>?_) (fun c=>?_)
      · exact q _ _ (sm1.trans (zac hD _)) (fun h=>by cases h)
      · refine ⟨sm1.trans (zac hD _),fun x y h1 h2 h3 h4=>?_,_,rfl⟩
        by_cases hx:x<1+i
        · exact hno x y h1 hx h3 h4
        · have c2:((List.range (((p^m:Nat):Int)-1).toNat).map fun j=>decide (0<mul p m t (1+i) (1+j))).all id=true:=yhk c
          rw [List.all_eq_true] at c2
          have c3:=c2 (decide (0<mul p m t (1+i) (1+(y-1)))) (List.mem_map.mpr ⟨y-1,List.mem_range.mpr (by omega),rfl⟩)
          have c4:0<mul p m t (1+i) (1+(y-1)):=of_decide_eq_true c3
          rw [show 1+i=x by omega,show 1+(y-1)=y by omega] at c4
          omega
  · rintro σ H' ⟨sm,hno,s,rfl⟩
    refine q _ _ sm fun _ x y h1 h2 h3 h4 h5=>hno x y h1 ?_ h4 h5
    have:=hj2.2.2 x h2 h3
    omega
end
end My
end
section
-- text: P5
namespace My
open PySem L2 Dg
theorem zfL {p m:Nat} (h:(p,m)∈Dg.menu):(p,1)∈Dg.menu:=(by decide +kernel:∀c∈Dg.menu,(c.1,1)∈Dg.menu) (p,m) h
def zeV:List (Int×Int)→TA
  | []=>tNil
  | (p,m)::r=>zcE (tTup (zcE (tC (.int p)) (zcE (tC (.int m)) tNil))) (zeV r)
@[irreducible] noncomputable def ydd (ps:List (Int×Int)):TA:=zeV ps
theorem zcY (ps:List (Int×Int)):ydd ps=zeV ps:=by unfold ydd;rfl
theorem zdB:ydd []=tNil:=by rw [zcY];rfl
theorem ycL {p m:Int} {r:List (Int×Int)}:ydd ((p,m)::r)=zcE (tTup (zcE (tC (.int p)) (zcE (tC (.int m)) tNil))) (ydd r):=by rw [zcY,zcY];rfl
section
variable {X:Cx}
theorem zcn:PA X [] (ydd []):=by rw [zdB];exact yab
theorem zal {p m:Int} {k1 k2 c:Nat} {p1 p2 p3:Pos} {es:List Expr} {r:List (Int×Int)} (h:PA X es (ydd r)):PA X (.Tuple [.Constant (.int p) k1 p1,.Constant (.int m) k2 p2] c p3::es) (ydd ((p,m)::r)):=by
  rw [ycL]
  exact zaa (yaQ (zaa yac (zaa yac yab))) h
end
def ycQ (H:Hp) (t:Addr):Prop:=∃p m:Nat,H t=some (.tup [Vn p,Vn m])∧(p,m)∈Dg.menu
theorem ycQ.same {H H':Hp} {t:Addr} (h:ycQ H t) (s:∀o,H t=some o→H' t=some o):ycQ H' t:=by
  obtain ⟨p,m,e,q⟩:=h;exact ⟨p,m,s _ e,q⟩
theorem yck:∀(ps:List (Int×Int)) (σ:St) (H:Hp) (Q:List V→Hp→Prop),(∀x∈ps,∃p m:Nat,x=((p:Int),(m:Int))∧(p,m)∈Dg.menu)→
    (∀(ts:List Addr) H',Same H H'→ts.length=ps.length→(∀t∈ts,H t=none∧ycQ H' t)→Q (ts.map V.ref) H')→ydd ps σ H Q
  | [],σ,H,Q,_,q=>by rw [zdB];exact q [] H (Same.refl _) rfl (fun t ht=>nomatch ht)
  | (p,m)::r,σ,H,Q,hp,q=>by
    rw [ycL]
    refine ⟨szl 2,fun t ht=>?_⟩
    obtain ⟨p',m',e,b⟩:=hp (p,m) List.mem_cons_self
    cases e
    refine yck r σ _ _ (fun x hx=>hp x (List.mem_cons_of_mem _ hx)) fun ts H' s hl hts=>?_
    refine q (t::ts) H' ((zac ht _).trans s) (by simp [hl]) fun t' ht'=>?_
    rcases List.mem_cons.mp ht' with e|e
    · subst e;exact ⟨ht,p',m',s _ _ zab,b⟩
    · exact ⟨(zac ht _).free (hts t' e).1,(hts t' e).2⟩
structure Menu (a g:Addr) (H:Hp) (l:Addr) (n:Nat):Prop where
  ex:∃ts:List Addr,H l=some (.lst (ts.map V.ref))∧ts.length=n∧∀t∈ts,t≠a∧t≠g∧ycQ H t
  na:l≠a
  ng:l≠g
theorem Menu.x {a g l:Addr} {n:Nat} {H H':Hp} (h:Menu a g H l n) (s:yar a g H H'):Menu a g H' l n:=by
  obtain ⟨⟨ts,h1,h2,h3⟩,na,ng⟩:=h
  exact ⟨⟨ts,s _ _ na ng h1,h2,fun t ht=>⟨(h3 t ht).1,(h3 t ht).2.1,(h3 t ht).2.2.same fun o e=>s _ _ (h3 t ht).1 (h3 t ht).2.1 e⟩⟩,na,ng⟩
section
variable {P:Program} {w:World} {K:PySem.W.Frag} {mg:Str→Option Value} {base:Heap} {f:Addr} {fd:FuncData}
def zbR:List Nat:=[17,19,23,29,31,37,41,43,47,53,59]
def yeb:Sp:=fun vs H Q _=>∃(a g:Addr),vs=[.ref a]∧Pu H a g∧∀(r:Addr) (p m t:Nat) H',r≠a→r≠g→H r=none→H' r=some (.tup [Vn p,Vn m,Vn t])→Good p m t→Pu H' a g→yar a g H H'→Q (.ref r) H'
theorem zap:yaj ["_law_purse_here","_law_some","_law_size","_law_p","_law_m","_law_many","_law_start","_law_turn","_law_field_here"] ["_law_purse_here"] (zad zaF):=⟨rfl,rfl,rfl,by decide +kernel,rfl,by decide +kernel,by decide +kernel⟩
theorem Pu.lt {H:Hp} {a g l:Addr} (h:Pu H a g) (hl:H l=none):l≠a∧l≠g:=by
  obtain ⟨ns,s,t,h1,h2⟩:=h
  exact ⟨Ne.symm (yae h1 hl),Ne.symm (yae h2 hl)⟩
theorem zfS (B:Bl mg) (h__law_pick:Has P w K mg base 1 "_law_pick" ["_law_purse_here","_law_many"] yc2) (h__law_raised:Has P w K mg base 1 "_law_raised" ["_law_one","_law_many"] yam) (h__law_is_good:Has P w K mg base 3 "_law_is_good" ["_law_field_here"] (zeL K)) (F:Fun K "_law_field" "_law_field" zaF f fd):FnOk P w K mg base CX0 4 f fd ["_law_purse_here"] yeb:=by
  refine F.ok zap (fun vs H Q E h=>?_) (fun cdv A outer s H vs Q E hr h=>?_)
  · obtain ⟨a,g,rfl,_⟩:=h;rfl
  obtain ⟨a,g,rfl,hP,q⟩:=h
  refine ⟨_,(@yaa _ _ _ _ _ (@yaf _ _ 1 _ _ _ _ zap.nd rfl (Or.inl rfl) (@zaK _ _ _ _ (@zal _ _ _ _ _ _ _ _ _ _ _ (@zal _ _ _ _ _ _ _ _ _ _ _ (@zal _ _ _ _ _ _ _ _ _ _ _ (@zal _ _ _ _ _ _ _ _ _ _ _ (@zal _ _ _ _ _ _ _ _ _ _ _ (@zal _ _ _ _ _ _ _ _ _ _ _ (@zal _ _ _ _ _ _ _ _ _ _ _ (@zal _ _ _ _ _ _ _ _ _ _ _ (@zal _ _ _ _ _ _ _ _ _ _ _ (@zal _ _ _ _ _ _ _ _ _ _ _ (@zal _ _ _ _ _ _ _ _ _ _ _ (@zal _ _ _ _ _ _ _ _ _ _ _ zcn))))))))))))) ⋯ (by trivial)) (@yaa _ _ _ _ _ (@yaf _ _ 2 _ _ _ _ zap.nd rfl (Or.inl rfl) (@yad _ _ _ _ _ _ _ _ _ _ _ h__law_pick hr (by decide) rfl (@zaa _ _ _ _ _ (pv 0) (@zaa _ _ _ _ _ yac yab ⋯) ⋯) (by decide) ⋯ ⋯) ⋯ (by trivial)) (@yaa _ _ _ _ _ (@zbe _ _ _ _ _ _ _ _ (@zaj _ _ _ _ _ _ _ _ ybw (pv 2) yac (zam _)) (@zae _ _ _ (@yaf _ _ 1 _ _ _ _ zap.nd rfl (Or.inl rfl) (@zaK _ _ _ _ (@zal _ _ _ _ _ _ _ _ _ _ _ (@zal _ _ _ _ _ _ _ _ _ _ _ (@zal _ _ _ _ _ _ _ _ _ _ _ (@zal _ _ _ _ _ _ _ _ _ _ _ zcn))))) ⋯ (by trivial))) zaw) (@yaa _ _ _ _ _ (@zbe _ _ _ _ _ _ _ _ (@zaj _ _ _ _ _ _ _ _ ybw (pv 2) yac (zam _)) (@zae _ _ _ (@ycv _ 1 _ _ _ _ _ _ _ _ _ ["_law_p"] [] [] _ _ _ _ zap.nd rfl (Or.inl rfl) (id (α:=CSc ["_law_purse_here","_law_some","_law_size","_law_p","_law_m","_law_many","_law_start","_law_turn","_law_field_here"] (zad zaF) ["_law_p"] [] [] _) ⟨by rfl,by decide +kernel,by decide +kernel,by decide +kernel,by decide +kernel,by rfl,by decide +kernel⟩) rfl (@zbk _ _ _ _ (@zaK _ _ _ _ (@zaa _ _ _ _ _ yac (@zaa _ _ _ _ _ yac (@zaa _ _ _ _ _ yac (@zaa _ _ _ _ _ yac (@zaa _ _ _ _ _ yac (@zaa _ _ _ _ _ yac (@zaa _ _ _ _ _ yac (@zaa _ _ _ _ _ yac (@zaa _ _ _ _ _ yac (@zaa _ _ _ _ _ yac (@zaa _ _ _ _ _ yac yab ⋯) ⋯) ⋯) ⋯) ⋯) ⋯) ⋯) ⋯) ⋯) ⋯) ⋯))) (fun cl C fp s H=>(@zaf _ _ 0 _ (by show List.Nodup (["_law_p"]:List Str);decide +kernel) rfl (Or.inl rfl) (by trivial))) (fun _ _ _ _ _=>za6) (fun _ _ _ _ _=>(@yaQ _ _ _ _ _ (@zaa _ _ _ _ _ (pv 0) (@zaa _ _ _ _ _ yac yab ⋯) ⋯))) ⋯ (by intro _;rfl) (by trivial))) zaw) (@yaa _ _ _ _ _ (@zbd _ _ _ _ _ _ (@zao _ _ _ _ _ _ _ yan (pv 1) (@yad _ _ _ _ _ _ _ _ _ _ _ h__law_pick hr (by decide) rfl (@zaa _ _ _ _ _ (pv 0) (@zaa _ _ _ _ _ (@zan _ _ _ _ _ _ _ _ _ yak rfl (B "len" (by decide)) PySem.boot_len (@zaa _ _ _ _ _ (pv 1) yab ⋯) (by decide) (by decide) ⋯ ⋯) yab ⋯) ⋯) (by decide) ⋯ ⋯) (fun _ _=>rfl)) (@ybe _ _ _ _ _ _ rfl (@zah _ _ _ _ _ (@zaf _ _ 3 _ zap.nd rfl (Or.inl rfl) (by trivial)) (@zah _ _ _ _ _ (@zaf _ _ 4 _ zap.nd rfl (Or.inl rfl) (by trivial)) zaL ⋯) ⋯) ⋯ ⋯) ⋯ ⋯ ⋯) (@yaa _ _ _ _ _ (@yaf _ _ 5 _ _ _ _ zap.nd rfl (Or.inl rfl) (@yad _ _ _ _ _ _ _ _ _ _ _ h__law_raised hr (by decide) rfl (@zaa _ _ _ _ _ (pv 3) (@zaa _ _ _ _ _ (pv 4) yab ⋯) ⋯) (by decide) ⋯ ⋯) ⋯ (by trivial)) (@yaa _ _ _ _ _ (@yaf _ _ 6 _ _ _ _ zap.nd rfl (Or.inl rfl) (@yad _ _ _ _ _ _ _ _ _ _ _ h__law_pick hr (by decide) rfl (@zaa _ _ _ _ _ (pv 0) (@zaa _ _ _ _ _ (pv 5) yab ⋯) ⋯) (by decide) ⋯ ⋯) ⋯ (by trivial)) (@yaa _ _ _ _ _ (@zaU _ _ _ _ _ _ _ _ PassesOwn.never rfl (@ya1 _ _ _ _ _ _ rfl (B "range" (by decide)) (@zaa _ _ _ _ _ (pv 5) yab ⋯) ⋯) (@zaf _ _ 7 _ zap.nd rfl (Or.inl rfl) (by trivial)) (@yaa _ _ _ _ _ (@yaf _ _ 8 _ _ _ _ zap.nd rfl (Or.inl rfl) (@yaQ _ _ _ _ _ (@zaa _ _ _ _ _ (pv 3) (@zaa _ _ _ _ _ (pv 4) (@zaa _ _ _ _ _ (@yag _ _ _ _ _ _ _ _ yaB (@yag _ _ _ _ _ _ _ _ yas (pv 6) (pv 7)) (pv 5)) yab ⋯) ⋯) ⋯)) ⋯ (by trivial)) (@zae _ _ _ (@zbe _ _ _ _ _ _ _ _ (@PW.pt _ _ _ (@zfk _ _ _ _ _ _ _ (@zaj _ _ _ _ _ _ _ _ ybw (pv 4) yac (zam _)) (@zdt _ _ _ _ (@yf4 _ _ _ (@yad _ _ _ _ _ _ _ _ _ _ _ h__law_is_good hr (by decide) rfl (@zaa _ _ _ _ _ (pv 8) yab ⋯) (by decide) ⋯ ⋯) (by intro _;rfl))))) (@zae _ _ _ (@yal _ _ _ _ (pv 8))) zaw))) (by intro _;rfl)) (@zae _ _ _ (@yal _ _ _ _ (@yaQ _ _ _ _ _ (@zaa _ _ _ _ _ (pv 3) (@zaa _ _ _ _ _ yac (@zaa _ _ _ _ _ yac yab ⋯) ⋯) ⋯)))))))))))),?_⟩
  refine yck [(2,1),(2,2),(2,3),(2,4),(3,1),(3,2),(3,3),(5,1),(5,2),(7,1),(11,1),(13,1)] _ H _ ?_ fun ts H0 s0 hts hpair=>?_
  · intro x hx
    simp only [List.mem_cons,List.not_mem_nil,or_false] at hx
    rcases hx with rfl|rfl|rfl|rfl|rfl|rfl|rfl|rfl|rfl|rfl|rfl|rfl
    · exact ⟨2,1,rfl,by decide +kernel⟩
    · exact ⟨2,2,rfl,by decide +kernel⟩
    · exact ⟨2,3,rfl,by decide +kernel⟩
    · exact ⟨2,4,rfl,by decide +kernel⟩
    · exact ⟨3,1,rfl,by decide +kernel⟩
    · exact ⟨3,2,rfl,by decide +kernel⟩
    · exact ⟨3,3,rfl,by decide +kernel⟩
    · exact ⟨5,1,rfl,by decide +kernel⟩
    · exact ⟨5,2,rfl,by decide +kernel⟩
    · exact ⟨7,1,rfl,by decide +kernel⟩
    · exact ⟨11,1,rfl,by decide +kernel⟩
    · exact ⟨13,1,rfl,by decide +kernel⟩
  refine ⟨by rw [List.length_map,hts];exact szl 12,fun l hl=>?_⟩
  have hP0:Pu (upd H0 l (.lst (ts.map V.ref))) a g:=hP.same (s0.trans (zac hl _))
  have sx0:yar a g H (upd H0 l (.lst (ts.map V.ref))):=Same.x (s0.trans (zac hl _))
  have M0:Menu a g (upd H0 l (.lst (ts.map V.ref))) l 12:=by
    have n1:=(hP.same s0).lt hl
    refine ⟨⟨ts,zab,hts,fun t ht=>?_⟩,n1.1,n1.2⟩
    have n2:=hP.lt (hpair t ht).1
    exact ⟨n2.1,n2.2,(hpair t ht).2.same fun o e=>(zac hl _) _ _ e⟩
  generalize upd H0 l (.lst (ts.map V.ref))=G at hP0 sx0 M0 ⊢
  refine ⟨_,rfl,a,g,8,rfl,hP0,by omega,by omega,fun sz H1 hsz hP1 sx1=>?_⟩
  have sxA:=sx0.trans sx1
  have M1:=M0.x sx1
  dsimp only [zau]
  refine yba (fun σ H'=>∃l n,0<n∧n≤12∧Menu a g H' l n∧Pu H' a g∧yar a g H H'∧σ=[some (.ref a),some (.ref l),some (Vn sz),none,none,none,none,none,none]) ?_ ?_
  · rintro σ H2 ⟨l,n,hn,hn2,M2,hP2,sx2,rfl⟩
    refine yba (fun σ H'=>∃l n,0<n∧n≤12∧Menu a g H' l n∧Pu H' a g∧yar a g H H'∧σ=[some (.ref a),some (.ref l),some (Vn sz),none,none,none,none,none,none]) ?_ ?_
    · rintro σ H3 ⟨l,n,hn,hn2,M3,hP3,sx3,rfl⟩
      obtain ⟨ts3,e3,l3,p3⟩:=M3.ex
      refine ⟨_,rfl,_,rfl,_,rfl,l,_,rfl,.inl (SqL.of e3),?_⟩
      refine ⟨a,g,n,by rw [List.length_map,l3];rfl,hP3,hn,by omega,fun i H4 hi hP4 sx4=>?_⟩
      obtain ⟨ts4,e4,l4,p4⟩:=(M3.x sx4).ex
      have hi4:i<ts4.length:=by omega
      refine ⟨l,_,_,.ref (ts4[i]),rfl,rfl,SqL.of e4,ybc (by rw [List.getElem?_map,List.getElem?_eq_getElem hi4];rfl),?_⟩
      obtain ⟨_,_,p,m,ep,hmem⟩:=p4 ts4[i] (List.getElem_mem hi4)
      obtain ⟨hp,hm,hpm⟩:=ybm hmem
      have hp2:=p_le hp hm hpm
      have hm6:=m_le hp hpm
      have hpos:0<p^m:=Nat.pow_pos (by omega)
      refine ⟨ts4[i],_,rfl,SqT.of ep,rfl,_,_,rfl,_,_,rfl,rfl,?_⟩
      refine ⟨_,rfl,_,rfl,p,m,rfl,hp2,by omega,?_⟩
      refine ⟨_,rfl,_,rfl,a,g,p^m,rfl,hP4,hpos,by omega,fun st H5 hst hP5 sx5=>?_⟩
      have sxE:=sx3.trans (sx4.trans sx5)
      refine ⟨_,rfl,((p^m:Nat):Int),rfl,by omega,by omega,?_⟩
      refine zbl (n:=p^m) (fun i σ H'=>Pu H' a g∧yar a g H H'∧∃s7 s8,σ=[some (.ref a),some (.ref l),some (Vn sz),some (Vn p),some (Vn m),some (Vn (p^m)),some (Vn st),s7,s8]) ⟨hP5,sxE,none,none,rfl⟩ ?_ ?_
      · rintro j σ H6 hj ⟨hP6,sx6,s7,s8,rfl⟩
        refine ⟨_,rfl,_,rfl,_,rfl,_,rfl,_,_,rfl,rfl,?_⟩
        refine ⟨_,rfl,_,_,rfl,rfl,by show (0:Int)<((p^m:Nat):Int);omega,?_⟩
        refine ⟨szl 3,fun r hr=>?_⟩
        have nr:=hP6.lt hr
        have hr0:H r=none:=by
          cases e:H r with
          | none=>rfl
          | some o=>rw [sx6 r o nr.1 nr.2 e] at hr;cases hr
        have et:V.int ((((st:Nat):Int)+(0+(j:Int)))%((p^m:Nat):Int))=Vn ((st+j)%p^m):=by show V.int _=V.int _;congr 1;rw [Int.zero_add];rfl
        have hlt:(st+j)%p^m<p^m:=Nat.mod_lt _ hpos
        have hP7:Pu (upd H6 r (.tup [Vn p,Vn m,Vn ((st+j)%p^m)])) a g:=hP6.same (zac hr _)
        have sx7:yar a g H (upd H6 r (.tup [Vn p,Vn m,Vn ((st+j)%p^m)])):=sx6.trans (Same.x (zac hr _))
        dsimp only [zau]
        rw [et]
        refine ⟨_,rfl,rfl,_,rfl,?_⟩
        refine ite2 (fun c=>?_) (fun c=>?_)
        · refine ite2 (fun _=>?_) (fun c=>absurd rfl c)
          have hm1:m=1:=by
            have:=of_decide_eq_true c
            injection this with this
            omega
          exact ⟨_,rfl,q r p m _ _ nr.1 nr.2 hr0 zab ⟨hmem,hlt,.inl hm1⟩ hP7 sx7⟩
        · refine ⟨_,rfl,r,p,m,(st+j)%p^m,rfl,SqT.of zab,hp,hm,hpm,hlt,fun b H8 s8' hb=>?_⟩
          refine ⟨_,rfl,?_⟩
          refine ite2 (fun c2=>?_) (fun _=>?_)
          · exact ⟨_,rfl,q r p m _ _ nr.1 nr.2 hr0 (s8' _ _ zab) ⟨hmem,hlt,.inr (hb c2)⟩ (hP7.same s8') (sx7.trans (Same.x s8'))⟩
          · exact ⟨hP7.same s8',sx7.trans (Same.x s8'),_,_,rfl⟩
      · rintro σ H6 ⟨hP6,sx6,s7,s8,rfl⟩
        refine ⟨_,rfl,szl 3,fun r hr=>?_⟩
        have nr:=hP6.lt hr
        have hr0:H r=none:=by
          cases e:H r with
          | none=>rfl
          | some o=>rw [sx6 r o nr.1 nr.2 e] at hr;cases hr
        exact q r p 1 0 _ nr.1 nr.2 hr0 zab ⟨zfL hmem,by simp;omega,.inl rfl⟩ (hP6.same (zac hr _)) (sx6.trans (Same.x (zac hr _)))
    · intro D' _ _ _ hD
      refine ⟨_,rfl,rfl,_,rfl,?_⟩
      refine ite2 (fun c=>?_) (fun c=>hD _ _ ⟨l,n,hn,hn2,M2,hP2,sx2,rfl⟩)
      refine ⟨szl 11,fun l2 hl2=>?_⟩
      refine ⟨l2,rfl,⟨_,SqL.of zab⟩,?_⟩
      refine zaI (za1 (xs:=zbR.map Vn)) (fun k acc H'=>Same (upd H2 l2 (.lst (zbR.map Vn))) H'∧∃ts:List Addr,ts.length=k∧acc=ts.map V.ref∧∀t∈ts,t≠a∧t≠g∧ycQ H' t)
        ⟨Same.refl _,[],rfl,rfl,fun t ht=>nomatch ht⟩ (fun i acc H' _ h=>SqL.of (h.1 _ _ zab)) ?_ ?_ ?_
      · rintro k acc H' hk ⟨_,ts,e,rfl,_⟩
        have hk':k<11:=hk
        rw [List.length_map,e];exact yap (by omega)
      · rintro k acc x H3 H4 hk ⟨s3,ts,e,rfl,hts⟩ ⟨rfl,hx⟩
        obtain ⟨pr,hpr,rfl⟩:∃pr,pr∈zbR∧x=Vn pr:=by
          rw [List.getElem?_map] at hx
          cases e:zbR[k]? with
          | none=>rw [e] at hx;cases hx
          | some pr=>rw [e] at hx;cases hx;exact ⟨pr,List.mem_of_getElem? e,rfl⟩
        have hb:(pr,1)∈Dg.menu:=(by decide +kernel:∀x∈zbR,(x,1)∈Dg.menu) pr hpr
        refine ⟨_,rfl,szl 2,fun t ht=>?_⟩
        have hP3:Pu H4 a g:=hP2.same ((zac hl2 _).trans s3)
        have nt:=hP3.lt ht
        refine ⟨s3.trans (zac ht _),ts++[t],by simp [e],by simp,fun t' ht'=>?_⟩
        rcases List.mem_append.mp ht' with h|h
        · exact ⟨(hts t' h).1,(hts t' h).2.1,(hts t' h).2.2.same fun o e=>(zac ht _) _ _ e⟩
        · cases List.mem_singleton.mp h
          exact ⟨nt.1,nt.2,pr,1,zab,hb⟩
      · rintro acc H3 ⟨s3,ts,e,rfl,hts⟩ D hD3
        have sA:Same H2 H3:=(zac hl2 _).trans s3
        have hP3:Pu H3 a g:=hP2.same sA
        have nD:=hP3.lt hD3
        refine hD _ _ ⟨D,11,by omega,by omega,⟨⟨ts,zab,e,fun t ht=>?_⟩,nD.1,nD.2⟩,hP3.same (zac hD3 _),sx2.trans (Same.x (sA.trans (zac hD3 _))),rfl⟩
        exact ⟨(hts t ht).1,(hts t ht).2.1,(hts t ht).2.2.same fun o e=>(zac hD3 _) _ _ e⟩
  · intro D' _ _ _ hD
    refine ⟨_,rfl,rfl,_,rfl,?_⟩
    refine ite2 (fun c=>?_) (fun c=>hD _ _ ⟨l,12,by omega,by omega,M1,hP1,sxA,rfl⟩)
    refine yck [(2,5),(2,6),(7,2),(61,1)] _ H1 _ ?_ fun ts2 H2 s2 hts2 hpair2=>?_
    · intro x hx
      simp only [List.mem_cons,List.not_mem_nil,or_false] at hx
      rcases hx with rfl|rfl|rfl|rfl
      · exact ⟨2,5,rfl,by decide +kernel⟩
      · exact ⟨2,6,rfl,by decide +kernel⟩
      · exact ⟨7,2,rfl,by decide +kernel⟩
      · exact ⟨61,1,rfl,by decide +kernel⟩
    refine ⟨by rw [List.length_map,hts2];exact szl 4,fun l2 hl2=>?_⟩
    refine hD _ _ ⟨l2,4,by omega,by omega,?_,hP1.same (s2.trans (zac hl2 _)),sxA.trans (Same.x (s2.trans (zac hl2 _))),rfl⟩
    have n1:=(hP1.same s2).lt hl2
    refine ⟨⟨ts2,zab,hts2,fun t ht=>?_⟩,n1.1,n1.2⟩
    have n2:=hP1.lt (hpair2 t ht).1
    exact ⟨n2.1,n2.2,(hpair2 t ht).2.same fun o e=>(zac hl2 _) _ _ e⟩
end
end My
end
section
-- text: P8
namespace My
open PySem L2 Dg
theorem ydk:bootBuiltins "dict"=some (.type "dict"):=by decide +kernel
def Pws (p m t b:Nat):List Nat:=(List.range (p^m-1)).map (pw p m t b)
def Logs (p m t b:Nat):List (Key×V):=(List.range (p^m-1)).map fun i=>(Sum.inl ((pw p m t b i:Nat):Int),Vn i)
def tabD (fa pa la:Addr) (p m:Nat):List (Key×V):=[(.inr "field",.ref fa),(.inr "p",Vn p),(.inr "m",Vn m),(.inr "many",Vn (p^m)),(.inr "powers",.ref pa),(.inr "logs",.ref la)]
structure Tab (H:Hp) (tb fa pa la:Addr) (p m t b:Nat):Prop where
  d:H tb=some (.dK (tabD fa pa la p m))
  f:H fa=some (.tup [Vn p,Vn m,Vn t])
  w:H pa=some (.lst ((Pws p m t b).map Vn))
  l:H la=some (.dK (Logs p m t b))
  good:Good p m t
  prim:Prim p m t b
theorem Tab.same {H H':Hp} {tb fa pa la:Addr} {p m t b:Nat} (T:Tab H tb fa pa la p m t b) (s:Same H H'):Tab H' tb fa pa la p m t b :=
  ⟨s _ _ T.d,s _ _ T.f,s _ _ T.w,s _ _ T.l,T.good,T.prim⟩
theorem zbc {α:Type} {f:Nat→α} (n:Nat) (h:∀i j,i<n→j<n→f i=f j→i=j):((List.range n).map f).Nodup:=by
  rw [List.Nodup,List.pairwise_iff_getElem]
  intro i j hi hj hij
  simp only [List.length_map,List.length_range] at hi hj
  simp only [List.getElem_map,List.getElem_range]
  intro e
  have:=h i j hi hj e
  omega
theorem zeA {f:Nat→Key} {g:Nat→V}:∀(l:List Nat) (n:Nat),l=List.range n→(∀i j,i<n→j<n→f i=f j→i=j)→∀i,i<n→valV (l.map fun i=>(f i,g i)) (f i)=some (g i):=by
  intro l n hl h i hi
  subst hl
  unfold valV
  rw [List.find?_map]
  have e:(List.range n).find? ((fun kv:Key×V=>decide (kv.1=f i)) ∘ fun i=>(f i,g i))=some i:=by
    rw [List.find?_range_eq_some]
    refine ⟨by simp,by simpa using hi,fun j hj=>?_⟩
    simp only [Function.comp,Bool.not_eq_true',decide_eq_false_iff_not]
    intro e
    have:=h j i (by omega) hi e
    omega
  rw [e];rfl
theorem yeG (fa pa la:Addr) (p m:Nat):zcO [] (tabD fa pa la p m)=tabD fa pa la p m:=rfl
theorem zcX (p m t b:Nat):(Pws p m t b).length=p^m-1:=by simp [Pws]
section
variable {P:Program} {w:World} {K:PySem.W.Frag} {mg:Str→Option Value} {base:Heap} {f:Addr} {fd:FuncData}
def zed:Sp:=fun vs H Q _=>∃(fa:Addr) (p m t:Nat),vs=[.ref fa]∧H fa=some (.tup [Vn p,Vn m,Vn t])∧Good p m t∧∀tb pa la b H',H tb=none→H pa=none→H la=none→Tab H' tb fa pa la p m t b→Same H H'→Q (.ref tb) H'
theorem yaH:yaj ["_law_field_here","_law_many","_law_powers","_law_base","_law_thing","_law_logs"] ["_law_field_here"] (zad yaE):=⟨rfl,rfl,rfl,by decide +kernel,rfl,by decide +kernel,by decide +kernel⟩
theorem yf0 (B:Bl mg) (h__law_raised:Has P w K mg base 1 "_law_raised" ["_law_one","_law_many"] yam) (h__law_product:Has P w K mg base 2 "_law_product" ["_law_field_here","_law_one","_law_other"] (zbZ K)) (F:Fun K "_law_table" "_law_table" yaE f fd):FnOk P w K mg base CX0 3 f fd ["_law_field_here"] zed:=by
  refine F.ok yaH (fun vs H Q E h=>?_) (fun cdv A outer s H vs Q E hr h=>?_)
  · obtain ⟨fa,p,m,t,rfl,_⟩:=h;rfl
  obtain ⟨fa,p,m,t,rfl,hf,G,q⟩:=h
  obtain ⟨b,Pb⟩:=G.prim
  have hp:=G.hp
  have hm:=G.hm
  have hpm:=G.hq
  have ht:=G.top
  have hp2:=p_le hp hm hpm
  have hm6:=m_le hp hpm
  have hQ2:=zaC hp hm
  have hbp:=Pb.pos
  have hbl:=Pb.lt
  refine ⟨_,(@yaa _ _ _ _ _ (@yaf _ _ 1 _ _ _ _ yaH.nd rfl (Or.inl rfl) (@yad _ _ _ _ _ _ _ _ _ _ _ h__law_raised hr (by decide) rfl (@zaa _ _ _ _ _ (@zao _ _ _ _ _ _ _ yau (pv 0) yac (fun _ _=>rfl)) (@zaa _ _ _ _ _ (@zao _ _ _ _ _ _ _ yau (pv 0) yac (fun _ _=>rfl)) yab ⋯) ⋯) (by decide) ⋯ ⋯) ⋯ (by trivial)) (@yaa _ _ _ _ _ (@ycp _ _ 2 3 _ _ _ _ _ _ _ _ _ _ _ rfl yaH.nd rfl rfl (by decide) rfl rfl (@zaa _ _ _ _ _ (@zaK _ _ _ _ yab) (@zaa _ _ _ _ _ yac yab ⋯) ⋯) rfl ⋯) (@yaa _ _ _ _ _ (@yaM _ _ _ _ _ _ PassesOwn.never (@zaj _ _ _ _ _ _ _ _ zgA (@zan _ _ _ _ _ _ _ _ _ yak rfl (B "len" (by decide)) PySem.boot_len (@zaa _ _ _ _ _ (pv 2) yab ⋯) (by decide) (by decide) ⋯ ⋯) (@yag _ _ _ _ _ _ _ _ yaU (pv 1) yac) (zam _)) (@yaa _ _ _ _ _ (@zfr _ _ 3 2 4 _ _ _ _ _ _ _ _ _ _ _ _ _ _ rfl yaH.nd rfl rfl rfl (by decide) rfl rfl rfl (@zaa _ _ _ _ _ (@yag _ _ _ _ _ _ _ _ yas (pv 3) yac) (@zaa _ _ _ _ _ (@zaK _ _ _ _ (@zaa _ _ _ _ _ yac yab ⋯)) (@zaa _ _ _ _ _ (@yag _ _ _ _ _ _ _ _ yas (pv 3) yac) yab ⋯) ⋯) ⋯) rfl ⋯) (@zae _ _ _ (@yaM _ _ _ _ _ _ PassesOwn.never (@zaj _ _ _ _ _ _ _ _ zd5 (pv 4) yac (zam _)) (@yaa _ _ _ _ _ (@ybX _ _ _ _ (@yeF _ _ _ _ _ _ _ _ _ _ _ _ PySem.F.plainAttrs_list PySem.F.slot_list_append PySem.F.type_list_append ybx (pv 2) (@zaa _ _ _ _ _ (pv 4) yab ⋯) ⋯ ⋯ ⋯ ⋯ ⋯) ⋯) (@zae _ _ _ (@yaf _ _ 4 _ _ _ _ yaH.nd rfl (Or.inl rfl) (@yad _ _ _ _ _ _ _ _ _ _ _ h__law_product hr (by decide) rfl (@zaa _ _ _ _ _ (pv 0) (@zaa _ _ _ _ _ (pv 4) (@zaa _ _ _ _ _ (pv 3) yab ⋯) ⋯) ⋯) (by decide) ⋯ ⋯) ⋯ (by trivial)))))))) (@yaa _ _ _ _ _ (@yaf _ _ 5 _ _ _ _ yaH.nd rfl (Or.inl rfl) (@zat _ _ _ _ _ _ _ _ _ (ycy rfl) rfl (B "dict" (by decide)) ydk (@zaa _ _ _ _ _ (@zbg _ _ _ _ _ _ _ ["_law_at","_law_thing"] [] [] _ _ _ _ (id (α:=CSc ["_law_field_here","_law_many","_law_powers","_law_base","_law_thing","_law_logs"] (zad yaE) ["_law_at","_law_thing"] [] [] _) ⟨by rfl,by decide +kernel,by decide +kernel,by decide +kernel,by decide +kernel,by rfl,by decide +kernel⟩) rfl (@ybJ _ _ _ _ _ _ _ _ rfl (B "enumerate" (by decide)) (@zaa _ _ _ _ _ (pv 2) yab ⋯) ⋯) (fun cl C fp s H=>(@yfe _ _ _ _ 2 _ K rfl rfl (@zah _ _ _ _ _ (@zaf _ _ 0 _ (by show List.Nodup (["_law_at","_law_thing"]:List Str);decide +kernel) rfl (Or.inl rfl) (by trivial)) (@zah _ _ _ _ _ (@zaf _ _ 1 _ (by show List.Nodup (["_law_at","_law_thing"]:List Str);decide +kernel) rfl (Or.inl rfl) (by trivial)) zaL ⋯) ⋯) ⋯ ⋯)) (fun _ _ _ _ _=>za6) (fun _ _ _ _ _=>(@yaQ _ _ _ _ _ (@zaa _ _ _ _ _ (pv 1) (@zaa _ _ _ _ _ (pv 0) yab ⋯) ⋯))) (by intro _;rfl)) yab ⋯) (by decide) (by decide) ⋯ ⋯) ⋯ (by trivial)) (@zae _ _ _ (@yal _ _ _ _ (@ygB _ _ _ _ _ (@zbF _ _ _ _ _ _ _ _ _ yaK (pv 0) (@zbF _ _ _ _ _ _ _ _ _ yaK (@zao _ _ _ _ _ _ _ yau (pv 0) yac (fun _ _=>rfl)) (@zbF _ _ _ _ _ _ _ _ _ yaK (@zao _ _ _ _ _ _ _ yau (pv 0) yac (fun _ _=>rfl)) (@zbF _ _ _ _ _ _ _ _ _ yaK (pv 1) (@zbF _ _ _ _ _ _ _ _ _ yaK (pv 2) (@zbF _ _ _ _ _ _ _ _ _ yaK (pv 5) zgr)))))) rfl rfl (fun h=>nomatch h) (by decide)))))))),?_⟩
  refine ⟨_,rfl,fa,_,_,_,rfl,rfl,SqT.of hf,rfl,?_⟩
  refine ⟨_,rfl,fa,_,_,_,rfl,rfl,SqT.of hf,rfl,?_⟩
  refine ⟨p,m,rfl,hp2,by omega,?_⟩
  refine ⟨szl 0,fun l0 hl0=>⟨_,_,rfl,?_⟩⟩
  dsimp only []
  refine yba (fun σ H'=>Same H H'∧∃pa s4,H pa=none∧H' pa=some (.lst ((Pws p m t b).map Vn))∧σ=[some (.ref fa),some (Vn (p^m)),some (.ref pa),some (Vn b),s4,none]) ?_ ?_
  · rintro σ H1 ⟨s1,pa,s4,npa,epa,rfl⟩
    refine ⟨_,rfl,false,pa,rfl,⟨_,SqL.of epa⟩,?_⟩
    refine zaI (zbb (b:=false) (xs:=(Pws p m t b).map Vn)) (fun k acc H'=>Same H1 H'∧∃ts:List Addr,ts.length=k∧acc=ts.map V.ref∧∀j a,ts[j]?=some a→H' a=some (.tup [Vn (pw p m t b j),Vn j])) ⟨Same.refl _,[],rfl,rfl,fun j a e=>by simp at e⟩ (fun i acc H' _ h=>SqL.of (h.1 _ _ epa)) ?_ ?_ ?_
    · rintro k acc H' hk ⟨_,ts,e,rfl,_⟩
      rw [List.length_map,zcX] at hk
      rw [List.length_map,e];exact yap (by omega)
    · rintro k acc x H2 H3 hk ⟨s2,ts,e,rfl,hts⟩ ⟨T,u,rfl,eu,hT,rfl⟩
      rw [List.length_map,zcX] at hk
      have eu2:u=Vn (pw p m t b k):=by
        unfold Pws at eu
        rw [List.getElem?_map,List.getElem?_map,List.getElem?_range hk] at eu
        exact (Option.some.inj eu).symm
      subst eu2
      refine ⟨T,_,rfl,SqT.of zab,rfl,_,_,rfl,_,_,rfl,rfl,?_⟩
      refine ⟨_,rfl,_,rfl,szl 2,fun a ha=>?_⟩
      have sA:=(zac hT (.tup [.int (k:Int),Vn (pw p m t b k)])).trans (zac ha (.tup [Vn (pw p m t b k),Vn k]))
      refine ⟨s2.trans sA,ts++[a],by simp [e],by simp,fun j a' ej=>?_⟩
      rw [List.getElem?_append] at ej
      split at ej
      · exact sA _ _ (hts j a' ej)
      · rename_i h
        have hj:j=k:=by
          have:=(List.getElem?_eq_some_iff.mp ej).1
          simp at this;omega
        subst hj
        simp [e] at ej
        subst ej
        exact zab
    · rintro acc H2 ⟨s2,ts,e,rfl,hts⟩ D hD
      rw [List.length_map,zcX] at e
      have sB:=zac hD (.lst (ts.map V.ref))
      refine ⟨D,ts,Logs p m t b,rfl,zab,by rw [e];simp [Logs],by simp only [Logs,List.length_map,List.length_range];exact szl _ (by omega),fun j a kv ej ek=>?_,?_,fun la hla=>?_⟩
      · have hj:j<p^m-1:=by have:=(List.getElem?_eq_some_iff.mp ej).1;omega
        unfold Logs at ek
        rw [List.getElem?_map,List.getElem?_range hj] at ek
        cases ek
        exact sB _ _ (hts j a ej)
      · unfold Logs
        rw [List.map_map]
        refine zbc _ fun i j hi hj e=>G.inj Pb i j hi hj ?_
        have e:Sum.inl ((pw p m t b i:Nat):Int)=(Sum.inl ((pw p m t b j:Nat):Int):Key):=e
        injection e with e
        omega
      · intro tb htb
        have s3:Same H1 (upd (upd H2 D (.lst (ts.map V.ref))) la (.dK (Logs p m t b))):=(s2.trans sB).trans (zac hla _)
        have s4:=s3.trans (zac htb (.dK []))
        have s5:=s1.trans s4
        refine ⟨_,rfl,_,rfl,fa,_,_,_,rfl,rfl,SqT.of (s5 _ _ hf),rfl,?_⟩
        refine ⟨_,rfl,fa,_,_,_,rfl,rfl,SqT.of (s5 _ _ hf),rfl,?_⟩
        refine ⟨_,rfl,_,rfl,_,rfl,zab,tabD fa pa la p m,rfl,by show 6≤15;decide,?_⟩
        rw [ydM,yeG]
        have s6:=s3.trans (zac htb (.dK (tabD fa pa la p m)))
        have s7:=s1.trans s6
        have old:∀a,H1 a=none→H a=none:=fun a ha=>by
          cases e:H a with
          | none=>rfl
          | some o=>rw [s1 _ _ e] at ha;cases ha
        have old2:∀a,upd H2 D (.lst (ts.map V.ref)) a=none→H a=none:=fun a ha=>by
          cases e:H a with
          | none=>rfl
          | some o=>rw [(s2.trans sB) _ _ (s1 _ _ e)] at ha;cases ha
        refine q tb pa la b _ ?_ npa (old2 la hla) ⟨zab,s7 _ _ hf,s6 _ _ epa,(zac htb _) _ _ zab,G,Pb⟩ s7
        cases e:H tb with
        | none=>rfl
        | some o=>rw [s3 _ _ (s1 _ _ e)] at htb;cases htb
  · intro D' _ _ _ hD
    refine zaN (fun σ H'=>Same H H'∧∃base pa s4,H pa=none∧σ=[some (.ref fa),some (Vn (p^m)),some (.ref pa),some (Vn base),s4,none]∧∃L:List Nat,H' pa=some (.lst (L.map Vn))∧((base=b∧L=Pws p m t b)∨(base<b∧L.length<p^m-1)))
      (fun σ _=>b-mI σ 3) ⟨zac hl0 _,0,l0,none,hl0,rfl,[],zab,.inr ⟨hbp,by show 0<p^m-1;omega⟩⟩ ?_
    rintro σ H1 ⟨s1,bs,pa,s4,npa,rfl,L,ePa,hL⟩
    refine ⟨_,rfl,pa,_,rfl,.inl (SqL.of ePa),?_⟩
    refine ⟨_,rfl,_,_,rfl,rfl,_,_,rfl,rfl,_,rfl,?_⟩
    rw [List.length_map]
    refine ite2 (fun c=>?_) (fun c=>?_)
    · have c':L.length<p^m-1:=by have:=of_decide_eq_true c;omega
      have hlt:bs<b:=by
        rcases hL with ⟨rfl,rfl⟩|h
        · rw [zcX] at c';omega
        · exact h.1
      refine ⟨fun σ' H'=>Same H H'∧∃pa s4,H pa=none∧σ'=[some (.ref fa),some (Vn (p^m)),some (.ref pa),some (Vn (bs+1)),s4,none]∧∃L:List Nat,H' pa=some (.lst (L.map Vn))∧((bs+1=b∧L=Pws p m t b)∨(bs+1<b∧L.length<p^m-1)),?_,?_⟩
      · rintro σ' H' ⟨s2,pa2,s5,n2,rfl,L2,e2,h2⟩
        refine ⟨_,?_,rfl,s2,bs+1,pa2,s5,n2,rfl,L2,e2,h2⟩
        show b-(bs+1)<b-bs;omega
      refine ⟨_,rfl,_,_,rfl,rfl,?_⟩
      refine ⟨szl 1,fun l1 hl1=>?_⟩
      refine ⟨_,rfl,_,_,rfl,rfl,_,_,_,rfl,?_⟩
      have n1:H l1=none:=by
        cases e:H l1 with
        | none=>rfl
        | some o=>rw [s1 _ _ e] at hl1;cases hl1
      have hb1:bs+1<p^m:=by omega
      have nfa:fa≠l1:=yae hf n1
      refine zaN (fun σ H'=>yar l1 l1 H1 H'∧∃k,1≤k∧k≤p^m-1∧σ=[some (.ref fa),some (Vn (p^m)),some (.ref l1),some (Vn (bs+1)),some (Vn (pw p m t (bs+1) k)),none]∧H' l1=some (.lst (((List.range k).map (pw p m t (bs+1))).map Vn))∧∀i,0<i→i<k→pw p m t (bs+1) i≠1)
        (fun _ H'=>p^m-yca H' l1) ⟨Same.x (zac hl1 _),1,by omega,by omega,?_,zab,fun i h1 h2=>by omega⟩ ?_
      · rw [zdr hp hm hb1];rfl
      rintro σ H2 ⟨sx2,k,hk1,hk2,rfl,e2,hne⟩
      have hlen:yca H2 l1=k:=by rw [ybg e2];simp
      refine ⟨_,rfl,rfl,_,rfl,?_⟩
      refine ite2 (fun c=>?_) (fun c=>?_)
      · have hk:pw p m t (bs+1) k≠1:=by
          intro e
          rw [e] at c
          exact absurd c (by decide)
        have hk3:k<p^m-1:=by
          rcases Nat.lt_or_ge k (p^m-1) with h|h
          · exact h
          · have:k=p^m-1:=by omega
            rw [this] at hk
            exact absurd (G.fermat (by omega) hb1) hk
        have hf2:H2 fa=some (.tup [Vn p,Vn m,Vn t]):=sx2 _ _ nfa nfa (s1 _ _ hf)
        have e3:((List.range k).map (pw p m t (bs+1))).map Vn++[Vn (pw p m t (bs+1) k)]=((List.range (k+1)).map (pw p m t (bs+1))).map Vn:=by
          rw [List.range_succ,List.map_append,List.map_append];rfl
        refine ⟨fun σ' H'=>yar l1 l1 H1 H'∧σ'=[some (.ref fa),some (Vn (p^m)),some (.ref l1),some (Vn (bs+1)),some (Vn (pw p m t (bs+1) (k+1))),none]∧H' l1=some (.lst (((List.range (k+1)).map (pw p m t (bs+1))).map Vn)),?_,?_⟩
        · rintro σ' H' ⟨a1,rfl,a3⟩
          have hl2:yca H' l1=k+1:=by rw [ybg a3];simp
          refine ⟨_,?_,rfl,a1,k+1,by omega,by omega,rfl,a3,fun i h1 h2=>?_⟩
          · show p^m-yca H' l1<p^m-yca H2 l1;rw [hl2,hlen];omega
          · rcases Nat.lt_or_ge i k with h|h
            · exact hne i h1 h
            · rw [show i=k by omega];exact hk
        refine ⟨_,rfl,.inl ⟨rfl,_,SqL.of e2⟩,_,rfl,?_⟩
        refine ⟨l1,_,_,rfl,rfl,e2,by simp only [List.length_map,List.length_range];exact yap (by omega),?_⟩
        rw [e3]
        have s3:yar l1 l1 H1 (upd H2 l1 (.lst (((List.range (k+1)).map (pw p m t (bs+1))).map Vn))):=yfw sx2
        refine ⟨_,rfl,_,rfl,_,rfl,fa,p,m,t,pw p m t (bs+1) k,bs+1,rfl,SqT.of (by rw [zag nfa];exact hf2),hp,hm,hpm,ht,ybv hp hm _ _,hb1,fun r H4 s4' br hr=>?_⟩
        have e:=zbO hp hm br hr
        subst e
        exact ⟨s3.trans (Same.x s4'),rfl,s4' _ _ zab⟩
      · have hk:pw p m t (bs+1) k=1:=by
          rcases Nat.decEq (pw p m t (bs+1) k) 1 with h|h
          · exfalso
            refine c ?_
            rw [decide_eq_false];rfl
            intro e;injection e with e;exact h (by omega)
          · exact h
        refine ⟨(s1.trans (ydg (sx2) hl1)),l1,_,n1,rfl,_,e2,?_⟩
        rcases Nat.lt_or_ge (bs+1) b with h|h
        · refine .inr ⟨h,?_⟩
          obtain ⟨i,i0,i1,ie⟩:=Pb.low (bs+1) (by omega) h
          simp only [List.length_map,List.length_range]
          rcases Nat.lt_or_ge i k with h3|h3
          · exact absurd ie (hne i i0 h3)
          · omega
        · have hbb:bs+1=b:=by omega
          refine .inl ⟨hbb,?_⟩
          rw [hbb] at hk ⊢
          have:k=p^m-1:=by
            rcases Nat.lt_or_ge k (p^m-1) with h3|h3
            · exact absurd hk (Pb.min k (by omega) h3)
            · omega
          rw [this];rfl
    · have c':¬ L.length<p^m-1:=by
        intro h;exact c (decide_eq_true (by omega))
      rcases hL with ⟨rfl,rfl⟩|h
      · exact hD _ _ ⟨s1,pa,s4,npa,ePa,rfl⟩
      · exact absurd h.2 c'
theorem yhd {fa pa la:Addr} {p m:Nat}:valV (tabD fa pa la p m) (.inr "p")=some (Vn p):=rfl
theorem zgM {fa pa la:Addr} {p m:Nat}:valV (tabD fa pa la p m) (.inr "m")=some (Vn m):=rfl
theorem yek {fa pa la:Addr} {p m:Nat}:valV (tabD fa pa la p m) (.inr "many")=some (Vn (p^m)):=rfl
theorem zeD {fa pa la:Addr} {p m:Nat}:valV (tabD fa pa la p m) (.inr "powers")=some (.ref pa):=rfl
theorem zei {fa pa la:Addr} {p m:Nat}:valV (tabD fa pa la p m) (.inr "logs")=some (.ref la):=rfl
theorem yfj {fa pa la:Addr} {p m:Nat}:valV (tabD fa pa la p m) (.inr "field")=some (.ref fa):=rfl
theorem Tab.get {H:Hp} {tb fa pa la:Addr} {p m t b:Nat} (T:Tab H tb fa pa la p m t b) {x:Str} {v:V} (h:valV (tabD fa pa la p m) (.inr x)=some v):DGet H tb (.str x) (some v):=by
  rw [←h];exact DGet.k (k:=.inr x) T.d
theorem Tab.log {H:Hp} {tb fa pa la:Addr} {p m t b:Nat} (T:Tab H tb fa pa la p m t b) {i:Nat} (h:i<p^m-1):DGet H la (Vn (pw p m t b i)) (some (Vn i)):=by
  have e:valV (Logs p m t b) (.inl ((pw p m t b i:Nat):Int))=some (Vn i):=by
    unfold Logs
    refine zeA _ _ rfl (fun i j hi hj e=>T.good.inj T.prim i j hi hj ?_) i h
    injection e with e
    omega
  rw [←e];exact DGet.k (k:=.inl ((pw p m t b i:Nat):Int)) T.l
theorem ybD (x:Nat):decide (Vn x=V.int 0)=decide (x=0):=decide_eq_decide.mpr ⟨fun e=>by injection e with e;omega,fun e=>by rw [e];rfl⟩
def zci:Sp:=fun vs H Q _=>∃(tb fa pa la:Addr) (p m t b x y:Nat),vs=[.ref tb,Vn x,Vn y]∧Tab H tb fa pa la p m t b∧x<p^m∧y<p^m∧Q (Vn (mul p m t x y)) H
theorem zbS:yaj ["_law_table_here","_law_one","_law_other","_law_at"] ["_law_table_here","_law_one","_law_other"] (zad zaP):=⟨rfl,rfl,rfl,by decide +kernel,rfl,by decide +kernel,by decide +kernel⟩
theorem zeQ (B:Bl mg) (F:Fun K "_law_times" "_law_times" zaP f fd):FnOk P w K mg base CX0 1 f fd ["_law_table_here","_law_one","_law_other"] zci:=by
  refine F.ok zbS (fun vs H Q E h=>?_) (fun cdv A outer s H vs Q E hr h=>?_)
  · obtain ⟨tb,fa,pa,la,p,m,t,b,x,y,rfl,_⟩:=h;rfl
  obtain ⟨tb,fa,pa,la,p,m,t,b,x,y,rfl,T,hx,hy,q⟩:=h
  have hp:=T.good.hp
  have hm:=T.good.hm
  refine ⟨_,(@yaa _ _ _ _ _ (@zbe _ _ _ _ _ _ _ _ (@PW.pt _ _ _ (@zfk _ _ _ _ _ _ _ (@zaj _ _ _ _ _ _ _ _ ybw (pv 1) yac (zam _)) (@zdt _ _ _ _ (@zaj _ _ _ _ _ _ _ _ ybw (pv 2) yac (zam _))))) (@zae _ _ _ (@yal _ _ _ _ yac)) zaw) (@yaa _ _ _ _ _ (@yaf _ _ 3 _ _ _ _ zbS.nd rfl (Or.inl rfl) (@yag _ _ _ _ _ _ _ _ yas (@ya3 _ _ _ _ _ _ (yb8 hr) (@ya3 _ _ _ _ _ _ (yb8 hr) (pv 0) yaK (fun _ _=>rfl)) (pv 1) (fun _ _=>rfl)) (@ya3 _ _ _ _ _ _ (yb8 hr) (@ya3 _ _ _ _ _ _ (yb8 hr) (pv 0) yaK (fun _ _=>rfl)) (pv 2) (fun _ _=>rfl))) ⋯ (by trivial)) (@zae _ _ _ (@yal _ _ _ _ (@zao _ _ _ _ _ _ _ yan (@ya3 _ _ _ _ _ _ (yb8 hr) (pv 0) yaK (fun _ _=>rfl)) (@yag _ _ _ _ _ _ _ _ yaB (pv 3) (@yag _ _ _ _ _ _ _ _ yaU (@ya3 _ _ _ _ _ _ (yb8 hr) (pv 0) yaK (fun _ _=>rfl)) yac)) (fun _ _=>rfl)))))),?_⟩
  refine zf8 (b1:=decide (x=0)) (b2:=decide (y=0)) (fun Q q=>⟨_,rfl,rfl,_,rfl,?_⟩) (fun Q q=>⟨_,rfl,rfl,_,rfl,?_⟩) ?_
  · rw [ybD];exact q
  · rw [ybD];exact q
  refine ite2 (fun c=>?_) (fun c=>?_)
  · have e:mul p m t x y=0:=by
      simp only [Bool.or_eq_true,decide_eq_true_eq] at c
      rcases c with rfl|rfl
      · exact zero_mul hp hm _
      · exact mul_zero hp hm _
    rw [e] at q
    exact q
  · simp only [Bool.or_eq_true,decide_eq_true_eq,not_or] at c
    obtain ⟨i,hi,ei⟩:=T.prim.all x (by omega) hx
    obtain ⟨j,hj,ej⟩:=T.prim.all y (by omega) hy
    have hQ2:=zaC hp hm
    have hQ:=T.good.hq
    have gi:=T.log hi
    have gj:=T.log hj
    rw [ei] at gi
    rw [ej] at gj
    refine ⟨_,rfl,tb,_,rfl,T.get zei,_,rfl,la,_,rfl,gi,?_⟩
    refine ⟨_,rfl,tb,_,rfl,T.get zei,_,rfl,la,_,rfl,gj,_,_,rfl,rfl,?_⟩
    refine ⟨_,rfl,tb,_,rfl,T.get zeD,?_⟩
    refine ⟨_,rfl,_,rfl,tb,_,rfl,T.get yek,_,_,rfl,rfl,_,_,rfl,rfl,by show (0:Int)<((p^m:Nat):Int)-1;omega,?_⟩
    have ek:((i:Int)+(j:Int))%(((p^m:Nat):Int)-1)=(((i+j)%(p^m-1):Nat):Int):=by
      rw [Int.natCast_emod,Int.natCast_add,Int.natCast_sub (by omega)];rfl
    have hk:(i+j)%(p^m-1)<p^m-1:=Nat.mod_lt _ (by omega)
    refine ⟨pa,_,_,Vn (pw p m t b ((i+j)%(p^m-1))),rfl,rfl,SqL.of T.w,?_,?_⟩
    · show atI _ (((i:Int)+(j:Int))%(((p^m:Nat):Int)-1))=_
      rw [ek]
      exact ybc (by unfold Pws;rw [List.getElem?_map,List.getElem?_map,List.getElem?_range hk];rfl)
    · have e:pw p m t b ((i+j)%(p^m-1))=mul p m t x y:=by
        rw [T.good.pw_mod T.prim.pos T.prim.lt,yb5 hp hm,ei,ej]
      rw [e]
      exact q
end
end My
end
section
-- text: P9
namespace My
open PySem L2 Dg
theorem zaB {ws:List Nat} {i:Nat} (h:i<ws.length):(ws.map Vn)[i]?=some (Vn (ws.getD i 0)):=by
  rw [List.getElem?_map,List.getElem?_eq_getElem h];simp [List.getD,h]
theorem zby {xs:List Nat} {n i:Nat} (h:∀x∈xs,x<n) (hi:i<xs.length):xs.getD i 0<n:=by
  have e:xs.getD i 0=xs[i]:=by simp [List.getD,hi]
  rw [e];exact h _ (List.getElem_mem hi)
theorem zbV {H H':Hp} {l:Addr} {o:HO} (s:Same H H') (h:H l=none):Same H (upd H' l o):=fun b u e=>by rw [zag (yae e h)];exact s _ _ e
theorem mapI (ns:List Nat):(ns.map fun n:Nat=>(n:Int)).map V.int=ns.map Vn:=by rw [List.map_map];rfl
structure ygK (pu g tb fa pa la:Addr):Prop where
  a1:tb≠pu
  a2:tb≠g
  b1:fa≠pu
  b2:fa≠g
  c1:pa≠pu
  c2:pa≠g
  d1:la≠pu
  d2:la≠g
theorem Tab.x {H H':Hp} {pu g tb fa pa la:Addr} {p m t b:Nat} (T:Tab H tb fa pa la p m t b) (a:ygK pu g tb fa pa la) (s:yar pu g H H'):Tab H' tb fa pa la p m t b :=
  ⟨s _ _ a.a1 a.a2 T.d,s _ _ a.b1 a.b2 T.f,s _ _ a.c1 a.c2 T.w,s _ _ a.d1 a.d2 T.l,T.good,T.prim⟩
def trim:List Nat→List Nat
  | []=>[]
  | x::xs=>match trim xs with
    | []=>if x=0 then [] else [x]
    | r=>x::r
theorem zbN:∀l:List Nat,trim (l++[0])=trim l
  | []=>rfl
  | x::xs=>by
    show (match trim (xs++[0]) with | []=>_|r=>_)=(match trim xs with | []=>_|r=>_)
    rw [zbN xs]
theorem ycl {x:Nat} (h:x≠0):∀l:List Nat,trim (l++[x])=l++[x]
  | []=>by show (if x=0 then [] else [x])=[x];rw [if_neg h]
  | y::xs=>by
    show (match trim (xs++[x]) with | []=>_|r=>_)=y::(xs++[x])
    rw [ycl h xs]
    cases xs <;> rfl
theorem zbE {l:List Nat} {e:Nat} (h:e<l.length):l.take (e+1)=l.take e++[l.getD e 0]:=by
  rw [List.take_add_one,List.getElem?_eq_getElem h]
  simp [List.getD,h]
theorem ydQ:∀l:List Nat,(trim l).length≤l.length
  | []=>Nat.le_refl _
  | x::xs=>by
    have ih:=ydQ xs
    show (match trim xs with | []=>if x=0 then [] else [x]|r=>x::r).length≤xs.length+1
    split
    · split <;> simp
    · rename_i e;rw [List.length_cons];omega
theorem yc7:∀(l:List Nat) (x:Nat),x∈trim l→x∈l
  | [],x,h=>h
  | y::xs,x,h=>by
    have h:x∈(match trim xs with | []=>if y=0 then [] else [y]|r=>y::r):=h
    split at h
    · split at h
      · simp at h
      · simp at h;simp [h]
    · rcases List.mem_cons.mp h with h|h
      · simp [h]
      · exact List.mem_cons_of_mem _ (yc7 xs x h)
theorem ydI:∀l:List Nat,trim (trim l)=trim l
  | []=>rfl
  | x::xs=>by
    have ih:=ydI xs
    cases e:trim xs with
    | nil =>
      have e2:trim (x::xs)=if x=0 then [] else [x]:=by show (match trim xs with | []=>_|r=>_)=_;rw [e]
      rw [e2]
      by_cases h:x=0
      · rw [if_pos h];rfl
      · rw [if_neg h];show (if x=0 then [] else [x])=[x];rw [if_neg h]
    | cons y r =>
      have e2:trim (x::xs)=x::y::r:=by show (match trim xs with | []=>_|r=>_)=_;rw [e]
      rw [e2]
      rw [e] at ih
      show (match trim (y::r) with | []=>_|r=>_)=_
      rw [ih]
section
variable {P:Program} {w:World} {K:PySem.W.Frag} {mg:Str→Option Value} {base:Heap} {f:Addr} {fd:FuncData}
theorem zfX (xs:List V) (e:Nat) (h:e≤xs.length):cutV xs none (some (e:Int))=xs.take e:=by
  have h1:HT.sIx xs.length 0 none=0:=rfl
  have h2:HT.sIx xs.length xs.length (some (e:Int))=e:=by
    simp only [HT.sIx]
    rw [if_neg (by omega)]
    simp
    omega
  unfold cutV
  rw [h1,h2,List.drop_zero,Nat.sub_zero]
def zdd (K:PySem.W.Frag):Sp:=fun vs H Q _=>∃(a:Addr) (ns:List Nat),vs=[.ref a]∧SqL K H a (ns.map Vn)∧ns.length≤1000∧∀r H',Same H H'→H r=none→H' r=some (.tup ((trim ns).map Vn))→Q (.ref r) H'
theorem ybW:yaj ["things","end"] ["things"] (zad zbn):=⟨rfl,rfl,rfl,by decide +kernel,rfl,by decide +kernel,by decide +kernel⟩
end
end My
end
section
-- text: PA
namespace My
open PySem L2 Dg
def zbv (p m t:Nat) (xs ys:List Nat) (i j:Nat):List Nat:=(List.range (xs.length+ys.length)).map fun n=>add p m (ycZ p m t xs ys i n) (if i≤n∧n-i<j then mul p m t (xs.getD i 0) (ys.getD (n-i) 0) else 0)
def rmul (p m t:Nat) (xs ys:List Nat):List Nat:=trim ((List.range (xs.length+ys.length)).map (conv p m t xs ys))
section
variable {p m t:Nat} (hp:2≤p) (hm:1≤m)
include hp hm
theorem zcm (xs ys:List Nat) (i j:Nat):(zbv p m t xs ys i j).length=xs.length+ys.length:=by simp [zbv]
theorem zeG (xs ys:List Nat):zbv p m t xs ys 0 0=List.replicate (xs.length+ys.length) 0:=by
  unfold zbv
  refine List.ext_getElem (by simp) fun n h1 h2=>?_
  simp only [List.getElem_map,List.getElem_range,List.getElem_replicate]
  rw [if_neg (by omega)]
  exact add_zero hp hm (yaN hp hm)
theorem yey (xs ys:List Nat) (i:Nat):zbv p m t xs ys i ys.length=zbv p m t xs ys (i+1) 0:=by
  unfold zbv
  refine List.map_congr_left fun n _=>?_
  rw [if_neg (show ¬ (i+1≤n∧n-(i+1)<0) by omega),add_zero hp hm (zcd hp hm _ _ _ _)]
  show _=add p m (ycZ p m t xs ys i n) _
  congr 1
  dsimp only
  by_cases h:i≤n
  · rw [if_pos h]
    by_cases h2:n-i<ys.length
    · rw [if_pos ⟨h,h2⟩]
    · rw [if_neg (by omega),zaM (xs:=ys) (by omega),mul_zero hp hm]
  · rw [if_neg (by omega),if_neg h]
theorem yft (xs ys:List Nat):zbv p m t xs ys xs.length 0=(List.range (xs.length+ys.length)).map (conv p m t xs ys):=by
  unfold zbv
  refine List.map_congr_left fun n _=>?_
  rw [if_neg (by omega),add_zero hp hm (zcd hp hm _ _ _ _),yfp hp hm]
theorem zeY {xs ys:List Nat} {i j:Nat} (hi:i<xs.length) (hj:j<ys.length):(zbv p m t xs ys i j).getD (i+j) 0=ycZ p m t xs ys i (i+j):=by
  unfold zbv
  rw [List.getD_eq_getElem?_getD,List.getElem?_map,List.getElem?_range (by omega)]
  show add p m _ (if _ then _ else 0)=_
  rw [if_neg (by omega),add_zero hp hm (zcd hp hm _ _ _ _)]
theorem yfd {xs ys:List Nat} {i j:Nat} (hi:i<xs.length) (hj:j<ys.length):(zbv p m t xs ys i j).set (i+j) (add p m (ycZ p m t xs ys i (i+j)) (mul p m t (xs.getD i 0) (ys.getD j 0)))=zbv p m t xs ys i (j+1):=by
  refine List.ext_getElem (by simp [zcm hp hm]) fun n h1 h2=>?_
  rw [List.getElem_set]
  by_cases e:i+j=n
  · subst e
    rw [if_pos rfl]
    simp only [zbv,List.getElem_map,List.getElem_range]
    rw [if_pos (by omega),show i+j-i=j by omega]
  · rw [if_neg e]
    simp only [zbv,List.getElem_map,List.getElem_range]
    by_cases h:i≤n∧n-i<j
    · rw [if_pos h,if_pos (by omega)]
    · rw [if_neg h,if_neg (by omega)]
end
theorem zdW (l:List Nat) (i x:Nat):(l.map Vn).set i (Vn x)=(l.set i x).map Vn:=by rw [List.map_set]
theorem yfs {n j:Nat} (h:j<n):ixN n (j:Int)=some j:=by unfold ixN;rw [if_pos (by omega),if_pos (by omega)];rfl
theorem ycd (n:Nat):(List.replicate n [V.int 0]).flatten=(List.replicate n 0).map Vn:=by
  induction n with
  | zero=>rfl
  | succ n ih=>rw [List.replicate_succ,List.flatten_cons,ih,List.replicate_succ];rfl
section
variable {P:Program} {w:World} {K:PySem.W.Frag} {mg:Str→Option Value} {base:Heap} {f:Addr} {fd:FuncData}
def ydp (K:PySem.W.Frag):Sp:=fun vs H Q _=>∃(fa a b:Addr) (p m t:Nat) (xs ys:List Nat),vs=[.ref fa,.ref a,.ref b]∧Fld K H fa p m t∧Good p m t∧SqT K H a (xs.map Vn)∧SqT K H b (ys.map Vn)∧xs.length≤200∧ys.length≤200∧(∀x∈xs,x<p^m)∧(∀y∈ys,y<p^m)∧
  ∀r H',Same H H'→H r=none→H' r=some (.tup ((rmul p m t xs ys).map Vn))→Q (.ref r) H'
theorem yaO:yaj ["field","one","other","product","i","a","j","b"] ["field","one","other"] (zad yaX):=⟨rfl,rfl,rfl,by decide +kernel,rfl,by decide +kernel,by decide +kernel⟩
theorem zfu (B:Bl mg) (h_plus:Has P w K mg base 1 "plus" ["field","one","other"] (zb0 K)) (h_times:Has P w K mg base 3 "times" ["field","one","other"] (zbt K)) (h_trimmed:Has P w K mg base 1 "trimmed" ["things"] (zdd K)) (F:Fun K "row_times" "row_times" yaX f fd):FnOk P w K mg base CX0 4 f fd ["field","one","other"] (ydp K):=by
  refine F.ok yaO (fun vs H Q E h=>?_) (fun cdv A outer s H vs Q E hr h=>?_)
  · obtain ⟨fa,a,b,p,m,t,xs,ys,rfl,_⟩:=h;rfl
  obtain ⟨fa,a,b,p,m,t,xs,ys,rfl,hF,G,ha,hb,lx,ly,hx,hy,q⟩:=h
  have hp:=G.hp
  have hm:=G.hm
  have hp2:=p_le hp hm G.hq
  refine ⟨_,(@yaa _ _ _ _ _ (@yaf _ _ 3 _ _ _ _ yaO.nd rfl (Or.inl rfl) (@yag _ _ _ _ _ _ _ _ zee (@zaK _ _ _ _ (@zaa _ _ _ _ _ yac yab ⋯)) (@yag _ _ _ _ _ _ _ _ yas (@zan _ _ _ _ _ _ _ _ _ yak rfl (B "len" (by decide)) PySem.boot_len (@zaa _ _ _ _ _ (pv 1) yab ⋯) (by decide) (by decide) ⋯ ⋯) (@zan _ _ _ _ _ _ _ _ _ yak rfl (B "len" (by decide)) PySem.boot_len (@zaa _ _ _ _ _ (pv 2) yab ⋯) (by decide) (by decide) ⋯ ⋯))) ⋯ (by trivial)) (@yaa _ _ _ _ _ (@zaU _ _ _ _ _ _ _ _ PassesOwn.never rfl (@ybJ _ _ _ _ _ _ _ _ rfl (B "enumerate" (by decide)) (@zaa _ _ _ _ _ (pv 1) yab ⋯) ⋯) (@ybe _ _ _ _ _ _ rfl (@zah _ _ _ _ _ (@zaf _ _ 4 _ yaO.nd rfl (Or.inl rfl) (by trivial)) (@zah _ _ _ _ _ (@zaf _ _ 5 _ yaO.nd rfl (Or.inl rfl) (by trivial)) zaL ⋯) ⋯) ⋯ ⋯) (@zae _ _ _ (@zaU _ _ _ _ _ _ _ _ PassesOwn.never rfl (@ybJ _ _ _ _ _ _ _ _ rfl (B "enumerate" (by decide)) (@zaa _ _ _ _ _ (pv 2) yab ⋯) ⋯) (@ybe _ _ _ _ _ _ rfl (@zah _ _ _ _ _ (@zaf _ _ 6 _ yaO.nd rfl (Or.inl rfl) (by trivial)) (@zah _ _ _ _ _ (@zaf _ _ 7 _ yaO.nd rfl (Or.inl rfl) (by trivial)) zaL ⋯) ⋯) ⋯ ⋯) (@zae _ _ _ (@zbd _ _ _ _ _ _ (@yad _ _ _ _ _ _ _ _ _ _ _ h_plus hr (by decide) rfl (@zaa _ _ _ _ _ (pv 0) (@zaa _ _ _ _ _ (@zao _ _ _ _ _ _ _ yan (pv 3) (@yag _ _ _ _ _ _ _ _ yas (pv 4) (pv 6)) (fun _ _=>rfl)) (@zaa _ _ _ _ _ (@yad _ _ _ _ _ _ _ _ _ _ _ h_times hr (by decide) rfl (@zaa _ _ _ _ _ (pv 0) (@zaa _ _ _ _ _ (pv 5) (@zaa _ _ _ _ _ (pv 7) yab ⋯) ⋯) ⋯) (by decide) ⋯ ⋯) yab ⋯) ⋯) ⋯) (by decide) ⋯ ⋯) (@zck _ _ _ _ _ _ _ (pv 3) (@yag _ _ _ _ _ _ _ _ yas (pv 4) (pv 6)) zbq (by intro _;rfl)) ⋯ ⋯ ⋯)) (by intro _;rfl))) (by intro _;rfl)) (@zae _ _ _ (@yal _ _ _ _ (@yad _ _ _ _ _ _ _ _ _ _ _ h_trimmed hr (by decide) rfl (@zaa _ _ _ _ _ (pv 3) yab ⋯) (by decide) ⋯ ⋯))))),?_⟩
  refine ⟨szl 1,fun l0 hl0=>?_⟩
  have s0:=zac hl0 (.lst [V.int 0])
  refine ⟨_,rfl,a,_,rfl,.inr (Same.tup s0 ha),_,rfl,b,_,rfl,.inr (Same.tup s0 hb),_,_,rfl,rfl,?_⟩
  have eN:(((xs.map Vn).length:Nat):Int)+(((ys.map Vn).length:Nat):Int)=((xs.length+ys.length:Nat):Int):=by simp
  refine ⟨l0,_,_,rfl,rfl,zab,by rw [eN];omega,by rw [eN];omega,by rw [eN,Int.toNat_natCast];exact szl _ (by simp;omega),fun l hl=>?_⟩
  rw [eN,Int.toNat_natCast,ycd,←zeG (t:=t) hp hm]
  have nl:=s0.free hl
  have s1:=zbV (l:=l) (o:=.lst ((zbv p m t xs ys 0 0).map Vn)) s0 nl
  refine ⟨_,rfl,true,a,rfl,⟨_,Same.tup s1 ha⟩,?_⟩
  refine za4 (zbb (b:=true) (xs:=xs.map Vn)) (fun i σ H'=>Same H H'∧H' l=some (.lst ((zbv p m t xs ys i 0).map Vn))∧∃s4 s5 s6 s7,σ=[some (.ref fa),some (.ref a),some (.ref b),some (.ref l),s4,s5,s6,s7]) ⟨s1,zab,none,none,none,none,rfl⟩ (fun i σ H' _ h=>Same.tup h.1 ha) ?_ ?_
  · rintro i z σ H1 H2 hi ⟨sm,el,s4,s5,s6,s7,rfl⟩ ⟨T,u,rfl,eu,hT,rfl⟩
    rw [List.length_map] at hi
    rw [zaB hi] at eu
    cases eu
    have sT:=zac hT (.tup [.int (i:Int),Vn (xs.getD i 0)])
    refine ⟨T,_,rfl,SqT.of zab,rfl,_,_,rfl,_,_,rfl,rfl,?_⟩
    refine ⟨_,rfl,true,b,rfl,⟨_,Same.tup (sm.trans sT) hb⟩,?_⟩
    refine za4 (zbb (b:=true) (xs:=ys.map Vn)) (fun j σ H'=>Same H H'∧H' l=some (.lst ((zbv p m t xs ys i j).map Vn))∧∃s6 s7,σ=[some (.ref fa),some (.ref a),some (.ref b),some (.ref l),some (Vn i),some (Vn (xs.getD i 0)),s6,s7]) ⟨sm.trans sT,sT _ _ el,_,_,rfl⟩ (fun j σ H' _ h=>Same.tup h.1 hb) ?_ ?_
    · rintro j z σ H3 H4 hj ⟨sm3,el3,s6,s7,rfl⟩ ⟨T2,u,rfl,eu,hT2,rfl⟩
      rw [List.length_map] at hj
      rw [zaB hj] at eu
      cases eu
      have sT2:=zac hT2 (.tup [.int (j:Int),Vn (ys.getD j 0)])
      have sm4:=sm3.trans sT2
      refine ⟨T2,_,rfl,SqT.of zab,rfl,_,_,rfl,_,_,rfl,rfl,?_⟩
      have el4:=sT2 _ _ el3
      refine ⟨_,rfl,_,rfl,_,rfl,_,rfl,_,_,rfl,rfl,?_⟩
      refine ⟨l,_,((i+j:Nat):Int),Vn (ycZ p m t xs ys i (i+j)),rfl,rfl,SqL.of el4,?_,?_⟩
      · refine ybc ?_
        rw [zaB (by rw [zcm hp hm];omega),zeY hp hm hi hj]
      refine ⟨_,rfl,_,rfl,_,rfl,fa,p,m,t,xs.getD i 0,ys.getD j 0,rfl,Same.tup sm4 hF,hp,hm,G.hq,G.top,zby hx hi,zby hy hj,fun r br h1=>?_⟩
      cases zbO hp hm br h1
      refine ⟨fa,p,m,t,ycZ p m t xs ys i (i+j),mul p m t (xs.getD i 0) (ys.getD j 0),rfl,Same.tup sm4 hF,hp,hp2,fun r h2=>?_⟩
      cases yga hp hm (zcd hp hm _ _ _ _) (za5 hp hm _ _) h2
      refine ⟨_,rfl,_,rfl,_,rfl,_,_,rfl,rfl,?_⟩
      refine ⟨l,_,((i+j:Nat):Int),i+j,rfl,rfl,el4,?_,?_⟩
      · rw [List.length_map,zcm hp hm];exact yfs (by omega)
      · rw [zdW,yfd hp hm hi hj]
        exact ⟨zbV sm4 nl,zab,_,_,rfl⟩
    · rw [List.length_map]
      rintro σ H3 ⟨sm3,el3,s6,s7,rfl⟩
      rw [yey hp hm] at el3
      exact ⟨sm3,el3,_,_,_,_,rfl⟩
  · rw [List.length_map]
    rintro σ H1 ⟨sm,el,s4,s5,s6,s7,rfl⟩
    rw [yft hp hm] at el
    refine ⟨_,rfl,l,_,rfl,SqL.of el,by simp;omega,fun r H2 s2 nr er=>?_⟩
    exact q r _ (sm.trans s2) (sm.free nr) er
end
end My
end
section
-- text: PB
namespace My
open PySem L2 Dg
theorem ye4:∀l:List Nat,(∀i,l.getD i 0=0)→trim l=[]
  | [],_=>rfl
  | x::xs,h=>by
    have h0:x=0:=h 0
    show (match trim xs with | []=>if x=0 then [] else [x]|r=>x::r)=[]
    rw [ye4 xs fun i=>by have:=h (i+1);simpa using this,if_pos h0]
theorem ydr:∀(l:List Nat) (i:Nat),(trim l).getD i 0=l.getD i 0
  | [],i=>rfl
  | x::xs,i=>by
    have ih:=ydr xs
    show (match trim xs with | []=>if x=0 then [] else [x]|r=>x::r).getD i 0=_
    cases e:trim xs with
    | nil =>
      rw [e] at ih
      cases i with
      | zero =>
        by_cases h:x=0
        · subst h;rfl
        · dsimp only;rw [if_neg h];rfl
      | succ i =>
        have:=ih i
        by_cases h:x=0
        · subst h;simpa using this
        · dsimp only;rw [if_neg h];simpa using this
    | cons y r =>
      rw [e] at ih
      cases i with
      | zero=>rfl
      | succ i=>have:=ih i;simpa using this
theorem zdu {n:Nat} {f:Nat→Nat} (i:Nat):((List.range n).map f).getD i 0=if i<n then f i else 0:=by
  rw [List.getD_eq_getElem?_getD,List.getElem?_map]
  by_cases h:i<n
  · rw [List.getElem?_range h,if_pos h];rfl
  · rw [List.getElem?_eq_none (by simpa using h),if_neg h];rfl
def wid (xs:List Nat) (n:Nat):List Nat:=xs++List.replicate (n-xs.length) 0
theorem yeW {xs:List Nat} {n:Nat} (h:xs.length≤n):(wid xs n).length=n:=by simp [wid];omega
theorem ygW {xs:List Nat} {n q:Nat} (hq:0<q) (h:∀x∈xs,x<q):∀x∈wid xs n,x<q:=by
  intro x hx
  rcases List.mem_append.mp hx with h1|h1
  · exact h x h1
  · rw [(List.mem_replicate.mp h1).2];exact hq
section
variable {p m t:Nat} (hp:2≤p) (hm:1≤m)
include hp hm
theorem yf8 {x y:Nat} (hx:x<p^m) (hy:y<p^m):add p m x (mul p m t (p-1) y)=sub p m x y:=by
  refine zb4 hp (zdi hp hm _ _) (zcy hp hm _ _) fun i hi=>?_
  rw [zef hp hm _ _ i hi,ye2 hp hm _ _ i hi,ybG hp hm _ _ i hi]
  have e:∀(k:Nat) (Y:Nat→Nat),1≤k→tn m (dgs p t) k (dgs p (p-1)) Y i=(p-1)*Y i:=by
    intro k Y hk
    obtain ⟨k,rfl⟩:∃k',k=k'+1:=⟨k-1,by omega⟩
    show dg p 0 (p-1)*Y i+tn m (dgs p t) k (fun j=>dg p (j+1) (p-1)) (yaA m (dgs p t) Y) i=_
    rw [yb1 _ _ _ _ (fun j=>by rw [zbp,Nat.div_eq_of_lt (by omega),zbh]),zbi,Nat.mod_eq_of_lt (by omega),Nat.add_zero]
  rw [e m _ hm,Nat.add_mod_mod]
end
section
variable {P:Program} {w:World} {K:PySem.W.Frag} {mg:Str→Option Value} {base:Heap} {f:Addr} {fd:FuncData}
def zgd (K:PySem.W.Frag):Sp:=fun vs H Q _=>∃(a:Addr) (xs:List Nat) (n:Nat),vs=[.ref a,Vn n]∧SqT K H a (xs.map Vn)∧xs.length≤n∧n≤1000∧∀r H',Same H H'→H r=none→H' r=some (.lst ((wid xs n).map Vn))→Q (.ref r) H'
theorem yeD:yaj ["row","many"] ["row","many"] (zad ybk):=⟨rfl,rfl,rfl,by decide +kernel,rfl,by decide +kernel,by decide +kernel⟩
theorem zha (B:Bl mg) (F:Fun K "widened" "widened" ybk f fd):FnOk P w K mg base CX0 1 f fd ["row","many"] (zgd K):=by
  refine F.ok yeD (fun vs H Q E h=>?_) (fun cdv A outer s H vs Q E hr h=>?_)
  · obtain ⟨a,xs,n,rfl,_⟩:=h;rfl
  obtain ⟨a,xs,n,rfl,ha,hl,hn,q⟩:=h
  refine ⟨_,(@zae _ _ _ (@yal _ _ _ _ (@yag _ _ _ _ _ _ _ _ yeQ (@zat _ _ _ _ _ _ _ _ _ yb4 rfl (B "list" (by decide)) ybz (@zaa _ _ _ _ _ (pv 0) yab ⋯) (by decide) (by decide) ⋯ ⋯) (@yag _ _ _ _ _ _ _ _ zee (@zaK _ _ _ _ (@zaa _ _ _ _ _ yac yab ⋯)) (@yag _ _ _ _ _ _ _ _ yaU (pv 1) (@zan _ _ _ _ _ _ _ _ _ yak rfl (B "len" (by decide)) PySem.boot_len (@zaa _ _ _ _ _ (pv 0) yab ⋯) (by decide) (by decide) ⋯ ⋯)))))),?_⟩
  refine ⟨_,rfl,a,_,rfl,.inr ha,fun l1 hl1=>?_⟩
  have s1:=zac hl1 (.lst (xs.map Vn))
  refine ⟨szl 1,fun l2 hl2=>?_⟩
  have s2:=s1.trans (zac hl2 (.lst [V.int 0]))
  refine ⟨_,rfl,_,rfl,a,_,rfl,.inr (Same.tup s2 ha),_,_,rfl,rfl,?_⟩
  have eN:(n:Int)-(((xs.map Vn).length:Nat):Int)=((n-xs.length:Nat):Int):=by rw [List.length_map];omega
  refine ⟨l2,_,_,rfl,rfl,zab,by rw [eN];omega,by rw [eN];omega,by rw [eN,Int.toNat_natCast];exact szl _ (by simp;omega),fun l3 hl3=>?_⟩
  rw [eN,Int.toNat_natCast,ycd]
  have s3:=zac hl3 (.lst ((List.replicate (n-xs.length) 0).map Vn))
  refine ⟨l1,l3,_,_,rfl,rfl,s3 _ _ ((zac hl2 _) _ _ zab),zab,by simp only [List.length_map,List.length_replicate];exact szl _ (by omega),fun r hr=>?_⟩
  rw [←List.map_append]
  have s4:=s2.trans s3
  exact q r _ (s4.trans (zac hr _)) (s4.free hr) zab
end
end My
end
section
-- text: PC
namespace My
open PySem L2 Dg
section
variable {P:Program} {w:World} {K:PySem.W.Frag} {mg:Str→Option Value} {base:Heap} {f:Addr} {fd:FuncData}
end
end My
end
section
-- text: PD
namespace My
open PySem L2 Dg
structure Ord (p m t x n:Nat):Prop where
  pos:1≤n
  one:pw p m t x n=1
  min:∀i,0<i→i<n→pw p m t x i≠1
theorem Ord.le {p m t x n k:Nat} (o:Ord p m t x n) (h0:0<k) (h:pw p m t x k=1):n≤k:=by
  rcases Nat.lt_or_ge k n with h1|h1
  · exact absurd h (o.min k h0 h1)
  · exact h1
theorem Ord.uniq {p m t x n k:Nat} (o:Ord p m t x n) (o':Ord p m t x k):n=k:=Nat.le_antisymm (o.le o'.pos o'.one) (o'.le o.pos o.one)
theorem zc7 (x:Nat):decide (Vn x=V.int 1)=decide (x=1):=decide_eq_decide.mpr ⟨fun e=>by injection e with e;omega,fun e=>by rw [e];rfl⟩
section
variable {P:Program} {w:World} {K:PySem.W.Frag} {mg:Str→Option Value} {base:Heap} {f:Addr} {fd:FuncData}
def zeg (K:PySem.W.Frag):Sp:=fun vs H Q _=>∃(fa:Addr) (p m t x:Nat),vs=[.ref fa,Vn x]∧Fld K H fa p m t∧Good p m t∧0<x∧x<p^m∧∀n,Ord p m t x n→n≤p^m-1→Q (Vn n) H
theorem ybd:yaj ["field","one","many","product"] ["field","one"] (zad ya7):=⟨rfl,rfl,rfl,by decide +kernel,rfl,by decide +kernel,by decide +kernel⟩
theorem zfE (B:Bl mg) (h_times:Has P w K mg base 3 "times" ["field","one","other"] (zbt K)) (F:Fun K "round_of" "round_of" ya7 f fd):FnOk P w K mg base CX0 4 f fd ["field","one"] (zeg K):=by
  refine F.ok ybd (fun vs H Q E h=>?_) (fun cdv A outer s H vs Q E hr h=>?_)
  · obtain ⟨fa,p,m,t,x,rfl,_⟩:=h;rfl
  obtain ⟨fa,p,m,t,x,rfl,hF,G,h0,hx,q⟩:=h
  have hp:=G.hp
  have hm:=G.hm
  have hQ:=G.hq
  have hQ2:=zaC hp hm
  refine ⟨_,(yaa (@yaf _ _ 2 _ _ _ _ ybd.nd rfl (Or.inl rfl) yac ⋯ (by trivial)) (yaa (@yaf _ _ 3 _ _ _ _ ybd.nd rfl (Or.inl rfl) (pv 1) ⋯ (by trivial)) (yaa (@yaM _ _ _ _ _ _ PassesOwn.never (@zaj _ _ _ _ _ _ _ _ zd5 (pv 3) yac (zam _)) (yaa (@yaf _ _ 3 _ _ _ _ ybd.nd rfl (Or.inl rfl) (yad h_times hr (by decide) rfl (zaa (pv 0) (zaa (pv 3) (zaa (pv 1) yab ⋯) ⋯) ⋯) (by decide) ⋯ ⋯) ⋯ (by trivial)) (zae (@ybt _ _ 2 _ _ _ _ _ _ ybd.nd rfl (Or.inl rfl) yac ydO (by trivial))))) (zae (@yal _ _ _ _ (pv 2)))))),?_⟩
  refine ⟨_,rfl,?_⟩
  refine zaN (fun σ H'=>H'=H∧∃k,1≤k∧k≤p^m-1∧σ=[some (.ref fa),some (Vn x),some (Vn k),some (Vn (pw p m t x k))]∧∀i,0<i→i<k→pw p m t x i≠1) (fun σ _=>p^m-mI σ 2) ⟨rfl,1,by omega,by omega,by rw [zdr hp hm hx];rfl,fun i h1 h2=>by omega⟩ ?_
  rintro σ H' ⟨rfl,k,hk1,hk2,rfl,hne⟩
  refine ⟨_,rfl,rfl,_,rfl,?_⟩
  rw [zc7]
  refine ite2 (fun c=>?_) (fun c=>?_)
  · have hk:pw p m t x k≠1:=by
      intro e
      rw [decide_eq_true e] at c
      exact absurd c (by decide)
    have hk3:k<p^m-1:=by
      rcases Nat.lt_or_ge k (p^m-1) with h|h
      · exact h
      · have:k=p^m-1:=by omega
        rw [this] at hk
        exact absurd (G.fermat h0 hx) hk
    refine ⟨fun σ' H''=>H''=H'∧σ'=[some (.ref fa),some (Vn x),some (Vn (k+1)),some (Vn (pw p m t x (k+1)))],?_,?_⟩
    · rintro σ' H'' ⟨rfl,rfl⟩
      refine ⟨_,?_,rfl,rfl,k+1,by omega,by omega,rfl,fun i h1 h2=>?_⟩
      · show p^m-(k+1)<p^m-k;omega
      · rcases Nat.lt_or_ge i k with h|h
        · exact hne i h1 h
        · rw [show i=k by omega];exact hk
    · refine ⟨_,rfl,_,rfl,_,rfl,fa,p,m,t,pw p m t x k,x,rfl,hF,hp,hm,hQ,G.top,ybv hp hm _ _,hx,fun r br h1=>?_⟩
      cases zbO hp hm br h1
      exact ⟨_,rfl,_,_,rfl,rfl,rfl,rfl⟩
  · have hk:pw p m t x k=1:=by
      rcases Nat.decEq (pw p m t x k) 1 with h|h
      · exact absurd (by rw [decide_eq_false h];rfl) c
      · exact h
    exact ⟨_,rfl,q k ⟨hk1,hk,hne⟩ hk2⟩
def zdA (K:PySem.W.Frag):Sp:=fun vs H Q _=>∃(wa fa:Addr) (p m t few x:Nat) (mv:V),vs=[.ref wa]∧SqT K H wa [.ref fa,Vn few,Vn x,mv]∧Fld K H fa p m t∧Good p m t∧0<x∧x<p^m∧∀n,Ord p m t x n→n≤p^m-1→Q (Vn n) H
theorem zfd:yaj ["wheel"] ["wheel"] (zad ybF):=⟨rfl,rfl,rfl,by decide +kernel,rfl,by decide +kernel,by decide +kernel⟩
theorem zfa (B:Bl mg) (h_round_of:Has P w K mg base 4 "round_of" ["field","one"] (zeg K)) (F:Fun K "length" "length" ybF f fd):FnOk P w K mg base CX0 5 f fd ["wheel"] (zdA K):=by
  refine F.ok zfd (fun vs H Q E h=>?_) (fun cdv A outer s H vs Q E hr h=>?_)
  · obtain ⟨wa,fa,p,m,t,few,x,mv,rfl,_⟩:=h;rfl
  obtain ⟨wa,fa,p,m,t,few,x,mv,rfl,hw,hF,G,h0,hx,q⟩:=h
  refine ⟨_,(zae (@yal _ _ _ _ (yad h_round_of hr (by decide) rfl (zaa (zao yau (pv 0) yac (fun _ _=>rfl)) (zaa (zao yau (pv 0) yac (fun _ _=>rfl)) yab ⋯) ⋯) (by decide) ⋯ ⋯))),?_⟩
  refine ⟨_,rfl,wa,_,_,_,rfl,rfl,hw,rfl,?_⟩
  refine ⟨_,rfl,wa,_,_,_,rfl,rfl,hw,rfl,?_⟩
  exact ⟨fa,p,m,t,x,rfl,hF,G,h0,hx,q⟩
def zdp:Sp:=fun vs H Q _=>∃(tb fa pa la:Addr) (p m t b x:Nat),vs=[.ref tb,Vn x]∧Tab H tb fa pa la p m t b∧0<x∧x<p^m∧∀n,Ord p m t x n→n≤p^m-1→Q (Vn n) H
theorem zbr:yaj ["_law_table_here","_law_one","_law_many","_law_thing"] ["_law_table_here","_law_one"] (zad zaS):=⟨rfl,rfl,rfl,by decide +kernel,rfl,by decide +kernel,by decide +kernel⟩
theorem zeI (B:Bl mg) (h__law_times:Has P w K mg base 1 "_law_times" ["_law_table_here","_law_one","_law_other"] zci) (F:Fun K "_law_round" "_law_round" zaS f fd):FnOk P w K mg base CX0 2 f fd ["_law_table_here","_law_one"] zdp:=by
  refine F.ok zbr (fun vs H Q E h=>?_) (fun cdv A outer s H vs Q E hr h=>?_)
  · obtain ⟨tb,fa,pa,la,p,m,t,b,x,rfl,_⟩:=h;rfl
  obtain ⟨tb,fa,pa,la,p,m,t,b,x,rfl,T,h0,hx,q⟩:=h
  have G:=T.good
  have hp:=G.hp
  have hm:=G.hm
  have hQ:=G.hq
  have hQ2:=zaC hp hm
  refine ⟨_,(yaa (@ycp _ _ 2 3 _ _ _ _ _ _ _ _ _ _ _ rfl zbr.nd rfl rfl (by decide) rfl rfl (zaa yac (zaa (pv 1) yab ⋯) ⋯) rfl ⋯) (yaa (@yaM _ _ _ _ _ _ PassesOwn.never (@zaj _ _ _ _ _ _ _ _ zd5 (pv 3) yac (zam _)) (zae (@ycp _ _ 2 3 _ _ _ _ _ _ _ _ _ _ _ rfl zbr.nd rfl rfl (by decide) rfl rfl (zaa (yag yas (pv 2) yac) (zaa (yad h__law_times hr (by decide) rfl (zaa (pv 0) (zaa (pv 3) (zaa (pv 1) yab ⋯) ⋯) ⋯) (by decide) ⋯ ⋯) yab ⋯) ⋯) rfl ⋯))) (zae (@yal _ _ _ _ (pv 2))))),?_⟩
  refine ⟨_,rfl,_,_,rfl,?_⟩
  refine zaN (fun σ H'=>H'=H∧∃k,1≤k∧k≤p^m-1∧σ=[some (.ref tb),some (Vn x),some (Vn k),some (Vn (pw p m t x k))]∧∀i,0<i→i<k→pw p m t x i≠1) (fun σ _=>p^m-mI σ 2) ⟨rfl,1,by omega,by omega,by rw [zdr hp hm hx];rfl,fun i h1 h2=>by omega⟩ ?_
  rintro σ H' ⟨rfl,k,hk1,hk2,rfl,hne⟩
  refine ⟨_,rfl,rfl,_,rfl,?_⟩
  rw [zc7]
  refine ite2 (fun c=>?_) (fun c=>?_)
  · have hk:pw p m t x k≠1:=by
      intro e
      rw [decide_eq_true e] at c
      exact absurd c (by decide)
    have hk3:k<p^m-1:=by
      rcases Nat.lt_or_ge k (p^m-1) with h|h
      · exact h
      · have:k=p^m-1:=by omega
        rw [this] at hk
        exact absurd (G.fermat h0 hx) hk
    refine ⟨fun σ' H''=>H''=H'∧σ'=[some (.ref tb),some (Vn x),some (Vn (k+1)),some (Vn (pw p m t x (k+1)))],?_,?_⟩
    · rintro σ' H'' ⟨rfl,rfl⟩
      refine ⟨_,?_,rfl,rfl,k+1,by omega,by omega,rfl,fun i h1 h2=>?_⟩
      · show p^m-(k+1)<p^m-k;omega
      · rcases Nat.lt_or_ge i k with h|h
        · exact hne i h1 h
        · rw [show i=k by omega];exact hk
    · refine ⟨_,rfl,_,_,rfl,rfl,_,rfl,_,rfl,_,rfl,tb,fa,pa,la,p,m,t,b,pw p m t x k,x,rfl,T,ybv hp hm _ _,hx,?_⟩
      exact ⟨_,_,rfl,rfl,rfl⟩
  · have hk:pw p m t x k=1:=by
      rcases Nat.decEq (pw p m t x k) 1 with h|h
      · exact absurd (by rw [decide_eq_false h];rfl) c
      · exact h
    exact ⟨_,rfl,q k ⟨hk1,hk,hne⟩ hk2⟩
def Pwn (p m t x n:Nat):List Nat:=(List.range n).map (pw p m t x)
theorem zc6 (p m t x n:Nat):(Pwn p m t x n).length=n:=by simp [Pwn]
theorem ygq {p m t x n i:Nat} (h:i<n):(Pwn p m t x n).getD i 0=pw p m t x i:=by
  unfold Pwn
  rw [List.getD_eq_getElem?_getD,List.getElem?_map,List.getElem?_range h];rfl
theorem yd8 {xs:List V} {v:V} (h:xs[xs.length-1]?=some v):atI xs (-1)=some v:=by
  have hl:0<xs.length:=by
    have:=(List.getElem?_eq_some_iff.mp h).1;omega
  unfold atI ixN
  rw [if_neg (by decide),if_pos (by omega)]
  show (some _).bind _=_
  rw [Option.bind_some,←h]
  congr 1
  omega
def ydt:Sp:=fun vs H Q _=>∃(tb fa pa la:Addr) (p m t b x:Nat),vs=[.ref tb,Vn x]∧Tab H tb fa pa la p m t b∧0<x∧x<p^m∧∀n r H',Ord p m t x n→n≤p^m-1→Same H H'→H r=none→H' r=some (.lst ((Pwn p m t x n).map Vn))→Q (.ref r) H'
theorem ybU:yaj ["_law_table_here","_law_root","_law_found"] ["_law_table_here","_law_root"] (zad zaQ):=⟨rfl,rfl,rfl,by decide +kernel,rfl,by decide +kernel,by decide +kernel⟩
theorem zft (B:Bl mg) (h__law_times:Has P w K mg base 1 "_law_times" ["_law_table_here","_law_one","_law_other"] zci) (F:Fun K "_law_roots" "_law_roots" zaQ f fd):FnOk P w K mg base CX0 2 f fd ["_law_table_here","_law_root"] ydt:=by
  refine F.ok ybU (fun vs H Q E h=>?_) (fun cdv A outer s H vs Q E hr h=>?_)
  · obtain ⟨tb,fa,pa,la,p,m,t,b,x,rfl,_⟩:=h;rfl
  obtain ⟨tb,fa,pa,la,p,m,t,b,x,rfl,T,h0,hx,q⟩:=h
  have G:=T.good
  have hp:=G.hp
  have hm:=G.hm
  have hQ:=G.hq
  have hQ2:=zaC hp hm
  refine ⟨_,(yaa (@yaf _ _ 2 _ _ _ _ ybU.nd rfl (Or.inl rfl) (@zaK _ _ _ _ (zaa yac yab ⋯)) ⋯ (by trivial)) (yaa (@yaM _ _ _ _ _ _ PassesOwn.never (@zaj _ _ _ _ _ _ _ _ zd5 (yad h__law_times hr (by decide) rfl (zaa (pv 0) (zaa (zao yan (pv 2) (@yd3 _ _ _ _ _ _ ycA yac) (fun _ _=>rfl)) (zaa (pv 1) yab ⋯) ⋯) ⋯) (by decide) ⋯ ⋯) yac (zam _)) (zae (@ybX _ _ _ _ (@yeF _ _ _ _ _ _ _ _ _ _ _ _ PySem.F.plainAttrs_list PySem.F.slot_list_append PySem.F.type_list_append ybx (pv 2) (zaa (yad h__law_times hr (by decide) rfl (zaa (pv 0) (zaa (zao yan (pv 2) (@yd3 _ _ _ _ _ _ ycA yac) (fun _ _=>rfl)) (zaa (pv 1) yab ⋯) ⋯) ⋯) (by decide) ⋯ ⋯) yab ⋯) ⋯ ⋯ ⋯ ⋯ ⋯) ⋯))) (zae (@yal _ _ _ _ (pv 2))))),?_⟩
  refine ⟨szl 1,fun l hl=>?_⟩
  refine zaN (fun σ H'=>Same H H'∧∃k,1≤k∧k≤p^m-1∧H' l=some (.lst ((Pwn p m t x k).map Vn))∧σ=[some (.ref tb),some (Vn x),some (.ref l)]∧∀i,0<i→i<k→pw p m t x i≠1) (fun _ H'=>p^m-yca H' l) ⟨zac hl _,1,by omega,by omega,zab,rfl,fun i h1 h2=>by omega⟩ ?_
  rintro σ H' ⟨sm,k,hk1,hk2,el,rfl,hne⟩
  have hlen:yca H' l=k:=by rw [ybg el];simp [Pwn]
  have T':=T.same sm
  have hlast:atI ((Pwn p m t x k).map Vn) (-1)=some (Vn (pw p m t x (k-1))):=yd8 (by rw [List.length_map,zc6,zaB (by rw [zc6];omega),ygq (by omega)])
  have hstep:mul p m t (pw p m t x (k-1)) x=pw p m t x k:=by
    obtain ⟨j,rfl⟩:∃j,k=j+1:=⟨k-1,by omega⟩
    rfl
  refine ⟨_,rfl,_,rfl,_,rfl,l,_,_,_,rfl,rfl,SqL.of el,hlast,?_⟩
  refine ⟨_,rfl,tb,fa,pa,la,p,m,t,b,pw p m t x (k-1),x,rfl,T',ybv hp hm _ _,hx,?_⟩
  rw [hstep]
  refine ⟨rfl,_,rfl,?_⟩
  rw [zc7]
  refine ite2 (fun c=>?_) (fun c=>?_)
  · have hk:pw p m t x k≠1:=by
      intro e
      rw [decide_eq_true e] at c
      exact absurd c (by decide)
    have hk3:k<p^m-1:=by
      rcases Nat.lt_or_ge k (p^m-1) with h|h
      · exact h
      · have:k=p^m-1:=by omega
        rw [this] at hk
        exact absurd (G.fermat h0 hx) hk
    refine ⟨fun σ' H''=>Same H H''∧σ'=[some (.ref tb),some (Vn x),some (.ref l)]∧H'' l=some (.lst ((Pwn p m t x (k+1)).map Vn)),?_,?_⟩
    · rintro σ' H'' ⟨a1,rfl,a3⟩
      have hl2:yca H'' l=k+1:=by rw [ybg a3];simp [Pwn]
      refine ⟨_,?_,rfl,a1,k+1,by omega,by omega,a3,rfl,fun i h1 h2=>?_⟩
      · rw [hl2,hlen];omega
      · rcases Nat.lt_or_ge i k with h|h
        · exact hne i h1 h
        · rw [show i=k by omega];exact hk
    · refine ⟨_,rfl,.inl ⟨rfl,_,SqL.of el⟩,?_⟩
      refine ⟨_,rfl,_,rfl,_,rfl,l,_,_,_,rfl,rfl,SqL.of el,hlast,?_⟩
      refine ⟨_,rfl,tb,fa,pa,la,p,m,t,b,pw p m t x (k-1),x,rfl,T',ybv hp hm _ _,hx,?_⟩
      rw [hstep]
      refine ⟨l,_,_,rfl,rfl,el,by rw [List.length_map,zc6];exact yap (by omega),?_⟩
      have e3:(Pwn p m t x k).map Vn++[Vn (pw p m t x k)]=(Pwn p m t x (k+1)).map Vn:=by
        unfold Pwn;rw [List.range_succ,List.map_append,List.map_append];rfl
      rw [e3]
      exact ⟨zbV sm hl,rfl,zab⟩
  · have hk:pw p m t x k=1:=by
      rcases Nat.decEq (pw p m t x k) 1 with h|h
      · exact absurd (by rw [decide_eq_false h];rfl) c
      · exact h
    exact ⟨_,rfl,q k l _ ⟨hk1,hk,hne⟩ hk2 sm hl el⟩
end
end My
end
section
-- text: PE
namespace My
open PySem L2 Dg
local macro_rules | `(tactic| walk_at "rd") => `(tactic| repeat (first | refine ⟨_, rfl, ?_⟩ | refine ⟨_, _, rfl, rfl, ?_⟩))
def zdz (p m t c:Nat) (xs:List Nat):List Nat:=(List.range xs.length).map fun i=>mul p m t c (xs.getD i 0)
def pwz (p m t x:Nat) (z:Int):Nat:=if x=0 then (if z=0 then 1 else 0) else pw p m t x (z%(((p^m:Nat):Int)-1)).toNat
section
variable {p m t:Nat} (G:Good p m t)
include G
theorem yfM (c:Nat) (xs:List Nat):∀x∈zdz p m t c xs,x<p^m:=fun x hx=>by
  obtain ⟨i,_,rfl⟩:=List.mem_map.mp hx
  exact za5 G.hp G.hm _ _
theorem zgh {x k:Nat} (hx:x<p^m):pw p m t x k=mul p m t (if k%2=1 then x else 1) (pw p m t (mul p m t x x) (k/2)):=by
  have e2:pw p m t x 2=mul p m t x x:=by show mul p m t (mul p m t 1 x) x=_;rw [ybA G.hp G.hm hx]
  by_cases c:k%2=1
  · rw [if_pos c,←e2,←ybM G.hp G.hm]
    rw [show pw p m t x k=pw p m t x (1+2*(k/2)) by congr 1;omega,yb5 G.hp G.hm,zdr G.hp G.hm hx]
  · rw [if_neg c,←e2,←ybM G.hp G.hm,ybA G.hp G.hm (ybv G.hp G.hm _ _)]
    congr 1;omega
theorem zdU {x:Nat} (hx:x<p^m) (n:Nat):pwz p m t x (n:Int)=pw p m t x n:=by
  unfold pwz
  have hQ:=zaC G.hp G.hm
  by_cases c:x=0
  · rw [if_pos c,c]
    cases n with
    | zero=>rfl
    | succ n=>rw [ze1 G.hp G.hm,if_neg (by omega)]
  · rw [if_neg c,show ((n:Int)%(((p^m:Nat):Int)-1)).toNat=n%(p^m-1) from ?_,G.pw_mod (by omega) hx]
    rw [show ((p^m:Nat):Int)-1=((p^m-1:Nat):Int) by omega,←Int.natCast_emod];rfl
end
section
variable {P:Program} {w:World} {K:PySem.W.Frag} {mg:Str→Option Value} {base:Heap} {f:Addr} {fd:FuncData}
def yc8 (K:PySem.W.Frag):Sp:=fun vs H Q _=>∃(a:Addr) (p m t:Nat),vs=[.ref a]∧Fld K H a p m t∧p≤64∧m≤1000∧Q (Vn (p^m)) H
theorem ycC:yaj ["field"] ["field"] (zad zaG):=⟨rfl,rfl,rfl,by decide +kernel,rfl,by decide +kernel,by decide +kernel⟩
theorem ygx (B:Bl mg) (h_number_power:Has P w K mg base 1 "number_power" ["base","many"] yam) (F:Fun K "many_things" "many_things" zaG f fd):FnOk P w K mg base CX0 2 f fd ["field"] (yc8 K):=by
  refine F.ok ycC (fun vs H Q E h=>?_) (fun cdv A outer s H vs Q E hr h=>?_)
  · obtain ⟨a,p,m,t,rfl,_⟩:=h;rfl
  obtain ⟨a,p,m,t,rfl,hF,hp,hm,q⟩:=h
  refine ⟨_,(zae (@yal _ _ _ _ (yad h_number_power hr (by decide) rfl (zaa (zao yau (pv 0) yac (fun _ _=>rfl)) (zaa (zao yau (pv 0) yac (fun _ _=>rfl)) yab ⋯) ⋯) (by decide) ⋯ ⋯))),?_⟩
  refine ⟨_,rfl,a,_,_,_,rfl,rfl,hF,rfl,_,rfl,a,_,_,_,rfl,rfl,hF,rfl,p,m,rfl,hp,hm,q⟩
def zcl (K:PySem.W.Frag):Sp:=fun vs H Q _=>∃(a:Addr) (p m t x n:Nat),vs=[.ref a,Vn x,Vn n]∧Fld K H a p m t∧Good p m t∧x<p^m∧Q (Vn (pw p m t x n)) H
theorem yaD:yaj ["field","one","many","product"] ["field","one","many"] (zad yaz):=⟨rfl,rfl,rfl,by decide +kernel,rfl,by decide +kernel,by decide +kernel⟩
theorem zfo (B:Bl mg) (h_times:Has P w K mg base 3 "times" ["field","one","other"] (zbt K)) (F:Fun K "times_itself" "times_itself" yaz f fd):FnOk P w K mg base CX0 4 f fd ["field","one","many"] (zcl K):=by
  refine F.ok yaD (fun vs H Q E h=>?_) (fun cdv A outer s H vs Q E hr h=>?_)
  · obtain ⟨a,p,m,t,x,n,rfl,_⟩:=h;rfl
  obtain ⟨a,p,m,t,x,n,rfl,hF,G,hx,q⟩:=h
  have hp:=G.hp
  have hm:=G.hm
  refine ⟨_,(yaa (@yaf _ _ 3 _ _ _ _ yaD.nd rfl (Or.inl rfl) yac ⋯ (by trivial)) (yaa (@yaM _ _ _ _ _ _ PassesOwn.never (@zaj _ _ _ _ _ _ _ _ zbJ (pv 2) yac (zam _)) (yaa (@zbe _ _ _ _ _ _ _ _ (@zaj _ _ _ _ _ _ _ _ ybw (yag yaB (pv 2) yac) yac (zam _)) (zae (@yaf _ _ 3 _ _ _ _ yaD.nd rfl (Or.inl rfl) (yad h_times hr (by decide) rfl (zaa (pv 0) (zaa (pv 3) (zaa (pv 1) yab ⋯) ⋯) ⋯) (by decide) ⋯ ⋯) ⋯ (by trivial))) zaw) (yaa (@ybt _ _ 2 _ _ _ _ _ _ yaD.nd rfl (Or.inl rfl) yac zcu (by trivial)) (zae (@zbe _ _ _ _ _ _ _ _ (@zaj _ _ _ _ _ _ _ _ zbJ (pv 2) yac (zam _)) (zae (@yaf _ _ 1 _ _ _ _ yaD.nd rfl (Or.inl rfl) (yad h_times hr (by decide) rfl (zaa (pv 0) (zaa (pv 1) (zaa (pv 1) yab ⋯) ⋯) ⋯) (by decide) ⋯ ⋯) ⋯ (by trivial))) zaw))))) (zae (@yal _ _ _ _ (pv 3))))),?_⟩
  refine zaN (fun σ H'=>H'=H∧∃(o k pr:Nat),σ=[some (.ref a),some (Vn o),some (Vn k),some (Vn pr)]∧o<p^m∧pr<p^m∧mul p m t pr (pw p m t o k)=pw p m t x n)
    (fun σ _=>mI σ 2) ⟨rfl,x,n,1,rfl,hx,zaC hp hm,ybA hp hm (ybv hp hm _ _)⟩ ?_
  rintro σ H' ⟨rfl,o,k,pr,rfl,ho,hpr,he⟩
  walk_at "rd"
  refine ite2 (fun c=>?_) (fun c=>?_)
  · have c':0<k:=by have:=of_decide_eq_true c;omega
    refine ⟨fun σ' H''=>H''=H'∧∃(o' pr':Nat),σ'=[some (.ref a),some (Vn o'),some (Vn (k/2)),some (Vn pr')]∧o'<p^m∧pr'<p^m∧mul p m t pr' (pw p m t o' (k/2))=pw p m t x n,?_,?_⟩
    · rintro σ' H'' ⟨rfl,o',pr',rfl,b1,b2,b3⟩
      exact ⟨_,by show k/2<k;exact Nat.div_lt_self c' (by omega),rfl,rfl,o',k/2,pr',rfl,b1,b2,b3⟩
    refine yba (fun σ' H''=>H''=H'∧∃pr':Nat,σ'=[some (.ref a),some (Vn o),some (Vn k),some (Vn pr')]∧pr'<p^m∧mul p m t pr' (pw p m t (mul p m t o o) (k/2))=pw p m t x n) ?_ ?_
    · rintro σ' H'' ⟨rfl,pr',rfl,hpr',he'⟩
      walk_at "rd"
      refine ⟨⟨by show (0:Int)<2;decide,by show (2:Int)<2^64;decide⟩,?_⟩
      walk_at "rd"
      refine ite2 (fun c2=>?_) (fun c2=>?_)
      · refine ⟨_,rfl,_,rfl,_,rfl,a,p,m,t,o,o,rfl,hF,hp,hm,G.hq,G.top,ho,ho,fun r br hr=>?_⟩
        cases zbO hp hm br hr
        exact ⟨rfl,_,pr',rfl,za5 hp hm _ _,hpr',he'⟩
      · have k0:k/2=0:=by
          have:=of_decide_eq_false (Bool.eq_false_iff.mpr c2)
          have e:((k/2:Nat):Int)=(k:Int)/2:=rfl
          omega
        rw [k0] at he'
        refine ⟨rfl,o,pr',rfl,ho,hpr',?_⟩
        rw [k0];exact he'
    · intro D' _ _ _ hD'
      refine ⟨_,rfl,_,_,rfl,rfl,by show (0:Int)<2;decide,rfl,_,rfl,?_⟩
      have ed:decide (V.int ((k:Int)%2)=V.int 1)=decide (k%2=1):=decide_eq_decide.mpr ⟨fun e=>by injection e with e;omega,fun e=>by congr 1;omega⟩
      rw [ed]
      rw [zgh G ho,←mul_assoc hp hm] at he
      refine ite2 (fun c2=>?_) (fun c2=>?_)
      · have c3:k%2=1:=of_decide_eq_true c2
        rw [if_pos c3] at he
        refine ⟨_,rfl,_,rfl,_,rfl,a,p,m,t,pr,o,rfl,hF,hp,hm,G.hq,G.top,hpr,ho,fun r br hr=>?_⟩
        cases zbO hp hm br hr
        exact hD' _ _ ⟨rfl,_,rfl,za5 hp hm _ _,he⟩
      · have c3:¬ k%2=1:=fun h=>c2 (decide_eq_true h)
        rw [if_neg c3,mul_one hp hm hpr] at he
        exact hD' _ _ ⟨rfl,_,rfl,hpr,he⟩
  · have c':k=0:=by have:=of_decide_eq_false (Bool.eq_false_iff.mpr c);omega
    subst c'
    refine ⟨_,rfl,?_⟩
    have e:pr=pw p m t x n:=by rw [←he];exact (mul_one hp hm hpr).symm
    rw [e]
    exact q
def zfx (K:PySem.W.Frag):Sp:=fun vs H Q _=>∃(a:Addr) (p m t x y:Nat),vs=[.ref a,Vn x,Vn y]∧Fld K H a p m t∧Good p m t∧x<p^m∧0<y∧y<p^m∧Q (Vn (mul p m t x (pw p m t y (p^m-2)))) H
theorem ygy:yaj ["field","one","other"] ["field","one","other"] (zad zcJ):=⟨rfl,rfl,rfl,by decide +kernel,rfl,by decide +kernel,by decide +kernel⟩
theorem zgs (B:Bl mg) (h_times:Has P w K mg base 3 "times" ["field","one","other"] (zbt K)) (h_times_itself:Has P w K mg base 4 "times_itself" ["field","one","many"] (zcl K)) (h_many_things:Has P w K mg base 2 "many_things" ["field"] (yc8 K)) (F:Fun K "over" "over" zcJ f fd):FnOk P w K mg base CX0 5 f fd ["field","one","other"] (zfx K):=by
  refine F.ok ygy (fun vs H Q E h=>?_) (fun cdv A outer s H vs Q E hr h=>?_)
  · obtain ⟨a,p,m,t,x,y,rfl,_⟩:=h;rfl
  obtain ⟨a,p,m,t,x,y,rfl,hF,G,hx,h0,hy,q⟩:=h
  have hp:=G.hp
  have hm:=G.hm
  have hQ:=zaC hp hm
  refine ⟨_,(yaa (@zbe _ _ _ _ _ _ _ _ (@zaj _ _ _ _ _ _ _ _ ybw (pv 2) yac (zam _)) (zae yc4) zaw) (zae (@yal _ _ _ _ (yad h_times hr (by decide) rfl (zaa (pv 0) (zaa (pv 1) (zaa (yad h_times_itself hr (by decide) rfl (zaa (pv 0) (zaa (pv 2) (zaa (yag yaU (yad h_many_things hr (by decide) rfl (zaa (pv 0) yab ⋯) (by decide) ⋯ ⋯) yac) yab ⋯) ⋯) ⋯) (by decide) ⋯ ⋯) yab ⋯) ⋯) ⋯) (by decide) ⋯ ⋯)))),?_⟩
  refine ⟨_,rfl,rfl,_,rfl,?_⟩
  rw [ybD]
  refine ite2 (fun c=>absurd (of_decide_eq_true c) (by omega)) (fun _=>?_)
  refine ⟨_,rfl,_,rfl,_,rfl,_,rfl,_,rfl,a,p,m,t,rfl,hF,p_le hp hm G.hq,by have:=m_le hp G.hq;omega,?_⟩
  refine ⟨_,_,rfl,rfl,a,p,m,t,y,p^m-2,?_,hF,G,hy,?_⟩
  · show [V.ref a,Vn y,V.int (((p^m:Nat):Int)-2)]=[V.ref a,Vn y,V.int ((p^m-2:Nat):Int)]
    rw [show ((p^m:Nat):Int)-2=((p^m-2:Nat):Int) by omega]
  refine ⟨a,p,m,t,x,_,rfl,hF,hp,hm,G.hq,G.top,hx,ybv hp hm _ _,fun r br hr=>?_⟩
  cases zbO hp hm br hr
  exact q
def ybQ (K:PySem.W.Frag):Sp:=fun vs H Q _=>∃(fa a:Addr) (p m t c:Nat) (xs:List Nat),vs=[.ref fa,Vn c,.ref a]∧Fld K H fa p m t∧Good p m t∧c<p^m∧SqT K H a (xs.map Vn)∧xs.length≤100∧(∀x∈xs,x<p^m)∧
  ∀r H',Same H H'→H r=none→H' r=some (.tup ((zdz p m t c xs).map Vn))→Q (.ref r) H'
theorem zc0:yaj ["field","one","word"] ["field","one","word"] (zad zaD):=⟨rfl,rfl,rfl,by decide +kernel,rfl,by decide +kernel,by decide +kernel⟩
theorem zcZ (B:Bl mg) (h_times:Has P w K mg base 3 "times" ["field","one","other"] (zbt K)) (F:Fun K "word_times" "word_times" zaD f fd):FnOk P w K mg base CX0 4 f fd ["field","one","word"] (ybQ K):=by
  refine F.ok zc0 (fun vs H Q E h=>?_) (fun cdv A outer s H vs Q E hr h=>?_)
  · obtain ⟨fa,a,p,m,t,c,xs,rfl,_⟩:=h;rfl
  obtain ⟨fa,a,p,m,t,c,xs,rfl,hF,G,hc,ha,hl,hx,q⟩:=h
  refine ⟨_,(zae (@yal _ _ _ _ (zat yav rfl (B "tuple" (by decide)) zav (zaa (@zbg _ _ _ _ _ _ _ ["thing"] ["field","one"] [0,1] _ _ _ _ (id (α:=CSc ["field","one","word"] (zad zaD) ["thing"] ["field","one"] [0,1] _) ⟨by rfl,by decide +kernel,by decide +kernel,by decide +kernel,by decide +kernel,by rfl,by decide +kernel⟩) rfl (@zeK _ _ _ _ (pv 2)) (fun cl C fp s H=>(@zaf _ _ 0 _ (by show List.Nodup (["thing","field","one"]:List Str);decide +kernel) rfl (Or.inl rfl) (by trivial))) (fun _ _ _ _ _=>za6) (fun _ _ _ _ _=>(yad h_times hr (by decide) rfl (zaa (pv 1) (zaa (pv 2) (zaa (pv 0) yab ⋯) ⋯) ⋯) (by decide) ⋯ ⋯)) (by intro _;rfl)) yab ⋯) (by decide) (by decide) ⋯ ⋯))),?_⟩
  refine ⟨_,rfl,a,rfl,⟨_,ha⟩,?_⟩
  refine zaI (yc6 (xs:=xs.map Vn)) (fun k acc H'=>Same H H'∧acc=((List.range k).map fun i=>mul p m t c (xs.getD i 0)).map Vn) ⟨Same.refl _,rfl⟩ (fun i acc H' _ h=>Same.tup h.1 ha) ?_ ?_ ?_
  · rintro k acc H' hk ⟨_,rfl⟩
    rw [List.length_map] at hk
    rw [List.length_map,List.length_map,List.length_range];exact yap (by omega)
  · rintro k acc z H1 H2 hk ⟨s1,rfl⟩ ⟨rfl,ez⟩
    rw [List.length_map] at hk
    rw [zaB (by omega)] at ez
    cases ez
    refine ⟨_,rfl,_,rfl,_,rfl,fa,p,m,t,c,xs.getD k 0,rfl,Same.tup s1 hF,G.hp,G.hm,G.hq,G.top,hc,zby hx (by omega),fun r br h1=>?_⟩
    cases zbO G.hp G.hm br h1
    refine ⟨s1,?_⟩
    rw [List.range_succ,List.map_append,List.map_append];rfl
  · rw [List.length_map]
    rintro acc H1 ⟨s1,rfl⟩ D hD
    refine ⟨D,_,rfl,.inl ⟨SqL.of zab,fun r hr=>?_⟩⟩
    have s2:=s1.trans (zac hD (.lst ((zdz p m t c xs).map Vn)))
    exact q r _ (s2.trans (zac hr _)) (s2.free hr) zab
end
end My
end
section
-- text: PF
namespace My
open PySem L2 Dg
local macro_rules | `(tactic| walk_at "rd") => `(tactic| repeat (first | refine ⟨_, rfl, ?_⟩ | refine ⟨_, _, rfl, rfl, ?_⟩))
section
variable {P:Program} {w:World} {K:PySem.W.Frag} {mg:Str→Option Value} {base:Heap} {f:Addr} {fd:FuncData}
end
end My
end
section
-- text: PJ
namespace My
open PySem L2 Dg
local macro_rules | `(tactic| walk_at "rd") => `(tactic| repeat (first | refine ⟨_, rfl, ?_⟩ | refine ⟨_, _, rfl, rfl, ?_⟩))
section
variable {p m t:Nat} (G:Good p m t)
include G
theorem Ord.dvd {x n k:Nat} (hx:x<p^m) (o:Ord p m t x n) (h:pw p m t x k=1):k%n=0:=by
  have hp:=G.hp
  have hm:=G.hm
  rcases Nat.eq_zero_or_pos (k%n) with c|c
  · exact c
  · have e:pw p m t x (n*(k/n)+k%n)=1:=by rw [Nat.div_add_mod];exact h
    rw [yb5 hp hm,ybM hp hm,o.one,yec hp hm,ybA hp hm (ybv hp hm _ _)] at e
    exact absurd e (o.min _ c (Nat.mod_lt _ (by have:=o.pos;omega)))
theorem Ord.round {x n few:Nat} (h0:0<x) (hx:x<p^m) (o:Ord p m t x n) (hf:m%few=0) (hf1:1≤few):(p^few)^(m/few)%n=1%n:=by
  have hp:=G.hp
  have hm:=G.hm
  have h1:=Ord.dvd G hx o (G.fermat h0 hx)
  have hQ:=zaC hp hm
  have e:few*(m/few)=m:=by have:=Nat.div_add_mod m few;rw [hf] at this;omega
  rw [←Nat.pow_mul,e]
  obtain ⟨c,hc⟩:=Nat.dvd_of_mod_eq_zero h1
  rw [show p^m=1+n*c by omega,Nat.add_mul_mod_self_left]
end
section
variable {P:Program} {w:World} {K:PySem.W.Frag} {mg:Str→Option Value} {base:Heap} {f:Addr} {fd:FuncData}
def ybp (i n q L:Nat):List Nat:=(List.range L).map fun j=>i*q^j%n
theorem zdl {i n q L j:Nat} (h:j<L):(ybp i n q L).getD j 0=i*q^j%n:=by unfold ybp;rw [List.getD_eq_getElem?_getD,List.getElem?_map,List.getElem?_range h];rfl
theorem ydj {q e n:Nat} (hr:q^e%n=1%n) (he:1≤e) (i a:Nat):i*q^a*q^(e*a-a)%n=i%n:=by
  have h:a≤e*a:=Nat.le_mul_of_pos_left a he
  rw [Nat.mul_assoc,←Nat.pow_add,show a+(e*a-a)=e*a by omega,Nat.pow_mul,Nat.mul_mod,Nat.pow_mod,hr,←Nat.pow_mod,Nat.one_pow,←Nat.mul_mod,Nat.mul_one]
theorem yex {i n q e L:Nat} (hr:q^e%n=1%n) (he:1≤e) (h:∀j,0<j→j<L→i*q^j%n≠i%n):(ybp i n q L).Nodup:=by
  refine zbc _ fun a b ha hb e1=>?_
  have key:∀a b:Nat,a<b→b<L→i*q^a%n=i*q^b%n→False:=fun a b hab hb e1=>by
    refine h (b-a) (by omega) (by omega) ?_
    have e2:=ydj hr he i a
    rw [Nat.mul_mod,e1,←Nat.mul_mod,show i*q^b=i*q^(b-a)*q^a by rw [Nat.mul_assoc,←Nat.pow_add,show b-a+a=b by omega],ydj hr he] at e2
    exact e2
  rcases Nat.lt_trichotomy a b with h1|h1|h1
  · exact (key a b h1 hb e1).elim
  · exact h1
  · exact (key b a h1 ha e1.symm).elim
theorem yfX {i n q L:Nat} (heq:i*q^L%n=i*q^0%n) (hL:0<L) (j:Nat):i*q^j%n∈ybp i n q L:=by
  induction j with
  | zero=>exact List.mem_map.mpr ⟨0,List.mem_range.mpr hL,rfl⟩
  | succ j ih =>
    obtain ⟨k,hk,ek⟩:=List.mem_map.mp ih
    have hk:=List.mem_range.mp hk
    have e2:i*q^(j+1)%n=i*q^(k+1)%n:=by
      rw [Nat.pow_succ,Nat.pow_succ,←Nat.mul_assoc,←Nat.mul_assoc,Nat.mul_mod,←ek,←Nat.mul_mod]
    rw [e2]
    by_cases c:k+1<L
    · exact List.mem_map.mpr ⟨k+1,List.mem_range.mpr c,rfl⟩
    · rw [show k+1=L by omega,heq]
      exact List.mem_map.mpr ⟨0,List.mem_range.mpr hL,rfl⟩
def zcc:Sp:=fun vs H Q _=>∃(i n q e:Nat),vs=[Vn i,Vn n,Vn q]∧0<n∧n≤64∧q≤64∧1≤e∧e≤6∧q^e%n=1%n∧
  ∀r (ns:List Nat) H',Same H H'→H r=none→H' r=some (.lst (ns.map Vn))→0<ns.length→ns.length≤6→(∀x∈ns,x<n)→(∀x∈ns,x*q%n∈ns)→ns.Nodup→(∀x∈ns,∃j,x=i*q^j%n)→(∀j,i*q^j%n∈ns)→Q (.ref r) H'
theorem yb7:yaj ["_law_i","_law_n","_law_q","_law_found"] ["_law_i","_law_n","_law_q"] (zad yaV):=⟨rfl,rfl,rfl,by decide +kernel,rfl,by decide +kernel,by decide +kernel⟩
theorem zfZ (B:Bl mg) (F:Fun K "_law_ring" "_law_ring" yaV f fd):FnOk P w K mg base CX0 1 f fd ["_law_i","_law_n","_law_q"] zcc:=by
  refine F.ok yb7 (fun vs H Q E h=>?_) (fun cdv A outer s H vs Q E hr h=>?_)
  · obtain ⟨i,n,q,e,rfl,_⟩:=h;rfl
  obtain ⟨i,n,q,e,rfl,hn,hn2,hq,he1,he2,hr1,q'⟩:=h
  refine ⟨_,(yaa (@yaf _ _ 3 _ _ _ _ yb7.nd rfl (Or.inl rfl) (@zaK _ _ _ _ (zaa (yag yaB (pv 0) (pv 1)) yab ⋯)) ⋯ (by trivial)) (yaa (@yaM _ _ _ _ _ _ PassesOwn.never (@zaj _ _ _ _ _ _ _ _ zd5 (yag yaB (yag ya4 (zao yan (pv 3) (@yd3 _ _ _ _ _ _ ycA yac) (fun _ _=>rfl)) (pv 2)) (pv 1)) (zao yan (pv 3) yac (fun _ _=>rfl)) (zam _)) (zae (@ybX _ _ _ _ (@yeF _ _ _ _ _ _ _ _ _ _ _ _ PySem.F.plainAttrs_list PySem.F.slot_list_append PySem.F.type_list_append ybx (pv 3) (zaa (yag yaB (yag ya4 (zao yan (pv 3) (@yd3 _ _ _ _ _ _ ycA yac) (fun _ _=>rfl)) (pv 2)) (pv 1)) yab ⋯) ⋯ ⋯ ⋯ ⋯ ⋯) ⋯))) (zae (@yal _ _ _ _ (pv 3))))),?_⟩
  refine ⟨_,rfl,_,rfl,_,_,rfl,rfl,by show (0:Int)<n;omega,szl 1,fun l hl=>?_⟩
  dsimp only [zau]
  refine zaN (fun σ H'=>∃L:Nat,1≤L∧L≤e∧(∀j,0<j→j<L→i*q^j%n≠i%n)∧H'=upd H l (.lst ((ybp i n q L).map Vn))∧σ=[some (Vn i),some (Vn n),some (Vn q),some (.ref l)]) (fun _ H'=>7-yca H' l) ⟨1,Nat.le_refl _,he1,fun j _ _=>by omega,by simp [ybp];rfl,rfl⟩ ?_
  rintro σ H' ⟨L,h1,h2,hne0,rfl,rfl⟩
  have el:upd H l (.lst ((ybp i n q L).map Vn)) l=some (.lst ((ybp i n q L).map Vn)):=zab
  have ll:(ybp i n q L).length=L:=by simp [ybp]
  have hlast:atI ((ybp i n q L).map Vn) (-1)=some (Vn (i*q^(L-1)%n)):=yd8 (by rw [List.length_map,ll,zaB (by omega),zdl (by omega)])
  have hfirst:atI ((ybp i n q L).map Vn) 0=some (Vn (i*q^0%n)):=ybc (j:=0) (by rw [zaB (by omega),zdl (by omega)])
  have hml:i*q^(L-1)%n<n:=Nat.mod_lt _ hn
  refine ⟨_,rfl,_,rfl,l,_,_,_,rfl,rfl,SqL.of el,hlast,_,rfl,_,_,rfl,rfl,.inl ⟨by show -(2^64:Int)<((i*q^(L-1)%n:Nat):Int);omega,by show ((i*q^(L-1)%n:Nat):Int)<2^64;omega⟩,?_⟩
  refine ⟨_,rfl,_,_,rfl,rfl,by show (0:Int)<n;omega,?_⟩
  refine ⟨_,rfl,l,_,_,_,rfl,rfl,SqL.of el,hfirst,rfl,_,rfl,?_⟩
  have en:(i*q^(L-1)%n)*q%n=i*q^L%n:=by
    rw [Nat.mod_mul_mod,Nat.mul_assoc,←Nat.pow_succ,show (L-1).succ=L by omega]
  have e0:i*q^0%n=i%n:=by rw [Nat.pow_zero,Nat.mul_one]
  refine ite2 (fun c=>?_) (fun c=>?_)
  · have hne:i*q^L%n≠i%n:=by
      intro h
      have:(V.int ((((i*q^(L-1)%n:Nat):Int)*(q:Int))%(n:Int)))=Vn (i*q^0%n):=by
        show V.int _=V.int _
        congr 1
        rw [e0,←h,←en];rfl
      rw [decide_eq_true this] at c
      exact absurd c (by decide)
    have hL:L<e:=by
      rcases Nat.lt_or_ge L e with h|h
      · exact h
      · have hle:L=e:=by omega
        rw [hle] at hne
        refine absurd ?_ hne
        rw [Nat.mul_mod,hr1,←Nat.mul_mod,Nat.mul_one]
    refine ⟨fun σ' H'=>H'=upd H l (.lst ((ybp i n q (L+1)).map Vn))∧σ'=[some (Vn i),some (Vn n),some (Vn q),some (.ref l)],?_,?_⟩
    · rintro σ' H' ⟨rfl,rfl⟩
      refine ⟨_,?_,rfl,L+1,by omega,by omega,fun j j0 j1=>?_,rfl,rfl⟩
      case refine_2 =>
        rcases Nat.lt_or_ge j L with h|h
        · exact hne0 j j0 h
        · rw [show j=L by omega];exact hne
      rw [ybg zab,ybg zab,List.length_map,List.length_map,ll,show (ybp i n q (L+1)).length=L+1 by simp [ybp]]
      omega
    · refine ⟨_,rfl,.inl ⟨rfl,_,SqL.of el⟩,?_⟩
      refine ⟨_,rfl,_,rfl,l,_,_,_,rfl,rfl,SqL.of el,hlast,_,rfl,_,_,rfl,rfl,.inl ⟨by show -(2^64:Int)<((i*q^(L-1)%n:Nat):Int);omega,by show ((i*q^(L-1)%n:Nat):Int)<2^64;omega⟩,?_⟩
      refine ⟨_,rfl,_,_,rfl,rfl,by show (0:Int)<n;omega,?_⟩
      refine ⟨l,_,_,rfl,rfl,el,by rw [List.length_map,ll];exact yap (by omega),?_,rfl⟩
      rw [ydM]
      congr 2
      have e1:ybp i n q (L+1)=ybp i n q L++[i*q^L%n]:=by unfold ybp;rw [List.range_succ,List.map_append];rfl
      rw [e1,List.map_append,←en];rfl
  · have heq:i*q^L%n=i*q^0%n:=by
      have h:decide (V.int ((((i*q^(L-1)%n:Nat):Int)*(q:Int))%(n:Int))=Vn (i*q^0%n))=true:=by
        rcases hb:decide (V.int ((((i*q^(L-1)%n:Nat):Int)*(q:Int))%(n:Int))=Vn (i*q^0%n)) with _|_
        · exact absurd (show (!decide (V.int ((((i*q^(L-1)%n:Nat):Int)*(q:Int))%(n:Int))=Vn (i*q^0%n)))=true by rw [hb];rfl) c
        · rfl
      have h2:=V.int.inj (of_decide_eq_true h)
      rw [←en]
      exact Int.ofNat.inj h2
    refine ⟨_,rfl,q' l (ybp i n q L) _ (zac hl _) hl el (by rw [ll];omega) (by rw [ll];omega) (fun x hx=>?_) (fun x hx=>?_) ?_ (fun x hx=>?_) (yfX heq (by omega))⟩
    rotate_left 2
    · refine yex hr1 (by omega) hne0
    · obtain ⟨j,_,rfl⟩:=List.mem_map.mp hx
      exact ⟨j,rfl⟩
    · obtain ⟨j,_,rfl⟩:=List.mem_map.mp hx
      exact Nat.mod_lt _ hn
    · obtain ⟨j,hj,rfl⟩:=List.mem_map.mp hx
      have hj:=List.mem_range.mp hj
      have e2:i*q^j%n*q%n=i*q^(j+1)%n:=by rw [Nat.mod_mul_mod,Nat.mul_assoc,←Nat.pow_succ]
      rw [e2]
      by_cases cj:j+1<L
      · exact List.mem_map.mpr ⟨j+1,List.mem_range.mpr cj,rfl⟩
      · rw [show j+1=L by omega,heq]
        exact List.mem_map.mpr ⟨0,List.mem_range.mpr (by omega),rfl⟩
theorem zfM (a b:Nat):decide (V.int ((a:Int)%(b:Int))=V.int 0)=decide (a%b=0) :=
  decide_eq_decide.mpr ⟨fun e=>Int.ofNat.inj (show Int.ofNat (a%b)=Int.ofNat 0 from V.int.inj e),fun e=>congrArg V.int (show Int.ofNat (a%b)=Int.ofNat 0 from congrArg Int.ofNat e)⟩
structure Whl (p m t few root n:Nat) (marks:List Nat):Prop where
  few1:1≤few
  fewm:m%few=0
  r0:0<root
  rq:root<p^m
  ord:Ord p m t root n
  nq:n≤p^m-1
  asc:marks.Pairwise (· < ·)
  lt:∀x∈marks,x<n
  closed:∀x∈marks,x*p^few%n∈marks
structure WhAt (H:Hp) (wh fa mk:Addr) (few root:Nat) (marks:List Nat):Prop where
  w:H wh=some (.tup [.ref fa,Vn few,Vn root,.ref mk])
  k:H mk=some (.tup (marks.map Vn))
theorem WhAt.same {H H':Hp} {wh fa mk:Addr} {few root:Nat} {marks:List Nat} (h:WhAt H wh fa mk few root marks) (s:Same H H'):WhAt H' wh fa mk few root marks:=⟨s _ _ h.w,s _ _ h.k⟩
theorem WhAt.x {pu g:Addr} {H H':Hp} {wh fa mk:Addr} {few root:Nat} {marks:List Nat} (h:WhAt H wh fa mk few root marks) (n1:wh≠pu∧wh≠g) (n2:mk≠pu∧mk≠g) (s:yar pu g H H'):WhAt H' wh fa mk few root marks:=⟨s _ _ n1.1 n1.2 h.w,s _ _ n2.1 n2.2 h.k⟩
def ybi (p m t:Nat) (H:Hp) (a:Addr):Prop:=∃n x:Nat,H a=some (.tup [Vn n,Vn x])∧Ord p m t x n∧n≤p^m-1∧0<x∧x<p^m
theorem ybi.same {p m t:Nat} {H H':Hp} {a:Addr} (h:ybi p m t H a) (s:Same H H'):ybi p m t H' a:=by obtain ⟨n,x,h1,r⟩:=h;exact ⟨n,x,s _ _ h1,r⟩
theorem Pu.tup_ne {H:Hp} {pu g a:Addr} {xs:List V} (h:Pu H pu g) (e:H a=some (.tup xs)):a≠pu∧a≠g:=by
  obtain ⟨ns,s,t,h1,h2⟩:=h
  exact ⟨fun q=>(by rw [q,h1] at e;cases e),fun q=>(by rw [q,h2] at e;cases e)⟩
def pn (H:Hp) (a:Addr):Nat:=match H a with
  | some (.tup (.int n::_))=>n.toNat
  | _=>0
theorem zb1 {H:Hp} {a:Addr} {n x:Nat} (h:H a=some (.tup [Vn n,Vn x])):pn H a=n:=by unfold pn;rw [h];rfl
theorem ybR {α:Type} {xs:List α} {k:Nat} {a:α} (h:xs[k]?=some a):xs.take (k+1)=xs.take k++[a]:=by
  obtain ⟨hk,e⟩:=List.getElem?_eq_some_iff.mp h
  rw [List.take_succ_eq_append_getElem hk,e]
theorem ydZ {ts:List Addr} {k:Nat} {z:V} (h:(ts.map V.ref)[k]?=some z):∃a,ts[k]?=some a∧z = .ref a:=by
  rw [List.getElem?_map] at h
  rcases e:ts[k]? with _|a
  · rw [e] at h;cases h
  · rw [e] at h;exact ⟨a,rfl,(Option.some.inj h).symm⟩
def ydD:Sp:=fun vs H Q _=>∃(pu g:Addr) (most:Nat),vs=[.ref pu,Vn most]∧Pu H pu g∧1≤most∧
  ∀(r tb fa pa la wh mk:Addr) (p m t b few root n:Nat) (marks:List Nat) H',H' r=some (.tup [.ref tb,.ref wh])→Tab H' tb fa pa la p m t b→ygK pu g tb fa pa la→WhAt H' wh fa mk few root marks→(wh≠pu∧wh≠g)→(mk≠pu∧mk≠g)→(r≠pu∧r≠g)→Whl p m t few root n marks→n≤most→Pu H' pu g→yar pu g H H'→Q (.ref r) H'
theorem zai:yaj ["_law_purse_here","_law_most","_law_way","_law_far","_law_table_here","_law_fews","_law_few","_law_q","_law_rounds","_law_greatest","_law_n","_law_root","_law_marks","_law_first","_law_many","_law_k"] ["_law_purse_here","_law_most"] (zad zar):=⟨rfl,rfl,rfl,by decide +kernel,rfl,by decide +kernel,by decide +kernel⟩
theorem zeZ (B:Bl mg) (h__law_pick:Has P w K mg base 1 "_law_pick" ["_law_purse_here","_law_many"] yc2) (h__law_field:Has P w K mg base 4 "_law_field" ["_law_purse_here"] yeb) (h__law_table:Has P w K mg base 3 "_law_table" ["_law_field_here"] zed) (h__law_raised:Has P w K mg base 1 "_law_raised" ["_law_one","_law_many"] yam)
    (h__law_round:Has P w K mg base 2 "_law_round" ["_law_table_here","_law_one"] zdp) (h__law_ring:Has P w K mg base 1 "_law_ring" ["_law_i","_law_n","_law_q"] zcc) (F:Fun K "_law_wheel" "_law_wheel" zar f fd):FnOk P w K mg base CX0 5 f fd ["_law_purse_here","_law_most"] ydD:=by
  refine F.ok zai (fun vs H Q E h=>?_) (fun cdv A outer s H vs Q E hr h=>?_)
  · obtain ⟨pu,g,most,rfl,_⟩:=h;rfl
  obtain ⟨pu,g,most,rfl,hP,hmost,q⟩:=h
  refine ⟨_,(yaa (@ycp _ _ 2 3 _ _ _ _ _ _ _ _ _ _ _ rfl zai.nd rfl rfl (by decide) rfl rfl (zaa (yad h__law_pick hr (by decide) rfl (zaa (pv 0) (zaa yac yab ⋯) ⋯) (by decide) ⋯ ⋯) (zaa (yad h__law_pick hr (by decide) rfl (zaa (pv 0) (zaa yac yab ⋯) ⋯) (by decide) ⋯ ⋯) yab ⋯) ⋯) rfl ⋯) (yaa (@yaf _ _ 4 _ _ _ _ zai.nd rfl (Or.inr rfl) (yad h__law_table hr (by decide) rfl (zaa (yad h__law_field hr (by decide) rfl (zaa (pv 0) yab ⋯) (by decide) ⋯ ⋯) yab ⋯) (by decide) ⋯ ⋯) ⋯ (by trivial)) (yaa (@ycv _ 5 _ _ _ _ _ _ _ _ _ ["_law_few"] ["_law_table_here"] [4] _ _ _ _ zai.nd rfl (Or.inl rfl) (id (α:=CSc ["_law_purse_here","_law_most","_law_way","_law_far","_law_table_here","_law_fews","_law_few","_law_q","_law_rounds","_law_greatest","_law_n","_law_root","_law_marks","_law_first","_law_many","_law_k"] (zad zar) ["_law_few"] ["_law_table_here"] [4] _) ⟨by rfl,by decide +kernel,by decide +kernel,by decide +kernel,by decide +kernel,by rfl,by decide +kernel⟩) rfl (@zbU _ _ _ _ _ _ _ rfl (B "range" (by decide)) (zaa yac (zaa (yag yas (@ya3 _ _ _ _ _ _ (yb8 hr) (pv 4) yaK (fun _ _=>rfl)) yac) yab ⋯) ⋯) ⋯ ⋯) (fun cl C fp s H=>(@zaf _ _ 0 _ (by show List.Nodup (["_law_few","_law_table_here"]:List Str);decide +kernel) rfl (Or.inl rfl) (by trivial))) (fun _ _ _ _ _=>(@ycc _ _ _ (@zaj _ _ _ _ _ _ _ _ ybw (yag yaB (@ya3 _ _ _ _ _ _ (yb8 hr) (pv 1) yaK (fun _ _=>rfl)) (pv 0)) yac (zam _)))) (fun _ _ _ _ _=>(pv 0)) ⋯ (by intro _;rfl) (by trivial)) (yaa (@yaf _ _ 6 _ _ _ _ zai.nd rfl (Or.inl rfl) (zao yan (pv 5) (yad h__law_pick hr (by decide) rfl (zaa (pv 0) (zaa (zan yak rfl (B "len" (by decide)) PySem.boot_len (zaa (pv 5) yab ⋯) (by decide) (by decide) ⋯ ⋯) yab ⋯) ⋯) (by decide) ⋯ ⋯) (fun _ _=>rfl)) ⋯ (by trivial)) (yaa (@yaf _ _ 7 _ _ _ _ zai.nd rfl (Or.inl rfl) (yad h__law_raised hr (by decide) rfl (zaa (@ya3 _ _ _ _ _ _ (yb8 hr) (pv 4) yaK (fun _ _=>rfl)) (zaa (pv 6) yab ⋯) ⋯) (by decide) ⋯ ⋯) ⋯ (by trivial)) (yaa (@ycv _ 8 _ _ _ _ _ _ _ _ _ ["_law_one"] ["_law_table_here"] [4] _ _ _ _ zai.nd rfl (Or.inl rfl) (id (α:=CSc ["_law_purse_here","_law_most","_law_way","_law_far","_law_table_here","_law_fews","_law_few","_law_q","_law_rounds","_law_greatest","_law_n","_law_root","_law_marks","_law_first","_law_many","_law_k"] (zad zar) ["_law_one"] ["_law_table_here"] [4] _) ⟨by rfl,by decide +kernel,by decide +kernel,by decide +kernel,by decide +kernel,by rfl,by decide +kernel⟩) rfl (@zbU _ _ _ _ _ _ _ rfl (B "range" (by decide)) (zaa yac (zaa (@ya3 _ _ _ _ _ _ (yb8 hr) (pv 4) yaK (fun _ _=>rfl)) yab ⋯) ⋯) ⋯ ⋯) (fun cl C fp s H=>(@zaf _ _ 0 _ (by show List.Nodup (["_law_one","_law_table_here"]:List Str);decide +kernel) rfl (Or.inl rfl) (by trivial))) (fun _ _ _ _ _=>za6) (fun _ _ _ _ _=>(@yaQ _ _ _ _ _ (zaa (yad h__law_round hr (by decide) rfl (zaa (pv 1) (zaa (pv 0) yab ⋯) ⋯) (by decide) ⋯ ⋯) (zaa (pv 0) yab ⋯) ⋯))) ⋯ (by intro _;rfl) (by trivial)) (yaa (@ycv _ 8 _ _ _ _ _ _ _ _ _ ["_law_pair"] ["_law_most"] [1] _ _ _ _ zai.nd rfl (Or.inl rfl) (id (α:=CSc ["_law_purse_here","_law_most","_law_way","_law_far","_law_table_here","_law_fews","_law_few","_law_q","_law_rounds","_law_greatest","_law_n","_law_root","_law_marks","_law_first","_law_many","_law_k"] (zad zar) ["_law_pair"] ["_law_most"] [1] _) ⟨by rfl,by decide +kernel,by decide +kernel,by decide +kernel,by decide +kernel,by rfl,by decide +kernel⟩) rfl (@zbk _ _ _ _ (pv 8)) (fun cl C fp s H=>(@zaf _ _ 0 _ (by show List.Nodup (["_law_pair","_law_most"]:List Str);decide +kernel) rfl (Or.inl rfl) (by trivial))) (fun _ _ _ _ _=>(@ycc _ _ _ (@zaj _ _ _ _ _ _ _ _ ygP (zao (ydV (K:=K) rfl) (pv 0) yac (fun _ _=>rfl)) (pv 1) (zam _)))) (fun _ _ _ _ _=>(pv 0)) ⋯ (by intro _;rfl) (by trivial)) (yaa (@yaf _ _ 9 _ _ _ _ zai.nd rfl (Or.inr rfl) (zan (zfh rfl) rfl (B "max" (by decide)) zcs (zaa (@zbg _ _ _ _ _ _ _ ["_law_pair"] [] [] _ _ _ _ (id (α:=CSc ["_law_purse_here","_law_most","_law_way","_law_far","_law_table_here","_law_fews","_law_few","_law_q","_law_rounds","_law_greatest","_law_n","_law_root","_law_marks","_law_first","_law_many","_law_k"] (zad zar) ["_law_pair"] [] [] _) ⟨by rfl,by decide +kernel,by decide +kernel,by decide +kernel,by decide +kernel,by rfl,by decide +kernel⟩) rfl (@zbk _ _ _ _ (pv 8)) (fun cl C fp s H=>(@zaf _ _ 0 _ (by show List.Nodup (["_law_pair"]:List Str);decide +kernel) rfl (Or.inl rfl) (by trivial))) (fun _ _ _ _ _=>za6) (fun _ _ _ _ _=>(zao (ydV (K:=K) rfl) (pv 0) yac (fun _ _=>rfl))) (by intro _;rfl)) yab ⋯) (by decide) (by decide) ⋯ ⋯) ⋯ (by trivial)) (yaa (@zbe _ _ _ _ _ _ _ _ (@zaj _ _ _ _ _ _ _ _ zbJ (pv 3) yac (zam _)) (zae (@ycv _ 8 _ _ _ _ _ _ _ _ _ ["_law_pair"] ["_law_greatest"] [9] _ _ _ _ zai.nd rfl (Or.inl rfl) (id (α:=CSc ["_law_purse_here","_law_most","_law_way","_law_far","_law_table_here","_law_fews","_law_few","_law_q","_law_rounds","_law_greatest","_law_n","_law_root","_law_marks","_law_first","_law_many","_law_k"] (zad zar) ["_law_pair"] ["_law_greatest"] [9] _) ⟨by rfl,by decide +kernel,by decide +kernel,by decide +kernel,by decide +kernel,by rfl,by decide +kernel⟩) rfl (@zbk _ _ _ _ (pv 8)) (fun cl C fp s H=>(@zaf _ _ 0 _ (by show List.Nodup (["_law_pair","_law_greatest"]:List Str);decide +kernel) rfl (Or.inl rfl) (by trivial))) (fun _ _ _ _ _=>(@ycc _ _ _ (@zaj _ _ _ _ _ _ _ _ ybw (zao (ydV (K:=K) rfl) (pv 0) yac (fun _ _=>rfl)) (pv 1) (zam _)))) (fun _ _ _ _ _=>(pv 0)) ⋯ (by intro _;rfl) (by trivial))) zaw) (yaa (@zbd _ _ _ _ _ _ (zao yan (pv 8) (yad h__law_pick hr (by decide) rfl (zaa (pv 0) (zaa (zan yak rfl (B "len" (by decide)) PySem.boot_len (zaa (pv 8) yab ⋯) (by decide) (by decide) ⋯ ⋯) yab ⋯) ⋯) (by decide) ⋯ ⋯) (fun _ _=>rfl)) (@ybe _ _ _ _ _ _ rfl (zah (@zaf _ _ 10 _ zai.nd rfl (Or.inl rfl) (by trivial)) (zah (@zaf _ _ 11 _ zai.nd rfl (Or.inl rfl) (by trivial)) zaL ⋯) ⋯) ⋯ ⋯) ⋯ ⋯ ⋯) (yaa (@yaf _ _ 12 _ _ _ _ zai.nd rfl (Or.inl rfl) (@zaK _ _ _ _ yab) ⋯ (by trivial)) (yaa (@zbe _ _ _ _ _ _ _ _ (@zaj _ _ _ _ _ _ _ _ ybw (pv 2) yac (zam _)) (zae (@yaf _ _ 12 _ _ _ _ zai.nd rfl (Or.inl rfl) (zat (ycS rfl) rfl (B "list" (by decide)) ybz (zaa (@ydA _ _ _ _ _ rfl (B "range" (by decide)) (zaa (pv 10) yab ⋯) ⋯) yab ⋯) (by decide) (by decide) ⋯ ⋯) ⋯ (by trivial))) (zae (@zbe _ _ _ _ _ _ _ _ (@zaj _ _ _ _ _ _ _ _ ybw (pv 2) yac (zam _)) (zae (@yaf _ _ 12 _ _ _ _ zai.nd rfl (Or.inl rfl) (yad h__law_ring hr (by decide) rfl (zaa (yad h__law_pick hr (by decide) rfl (zaa (pv 0) (zaa (pv 10) yab ⋯) ⋯) (by decide) ⋯ ⋯) (zaa (pv 10) (zaa (pv 7) yab ⋯) ⋯) ⋯) (by decide) ⋯ ⋯) ⋯ (by trivial))) (zae (@zbe _ _ _ _ _ _ _ _ (@zaj _ _ _ _ _ _ _ _ zbJ (pv 2) yac (zam _)) (yaa (@ycp _ _ 13 14 _ _ _ _ _ _ _ _ _ _ _ rfl zai.nd rfl rfl (by decide) rfl rfl (zaa (yad h__law_pick hr (by decide) rfl (zaa (pv 0) (zaa (pv 10) yab ⋯) ⋯) (by decide) ⋯ ⋯) (zaa (yad h__law_pick hr (by decide) rfl (zaa (pv 0) (zaa (pv 10) yab ⋯) ⋯) (by decide) ⋯ ⋯) yab ⋯) ⋯) rfl ⋯) (zae (@zaU _ _ _ _ _ _ _ _ PassesOwn.never rfl (@ya1 _ _ _ _ _ _ rfl (B "range" (by decide)) (zaa (pv 14) yab ⋯) ⋯) (@zaf _ _ 15 _ zai.nd rfl (Or.inl rfl) (by trivial)) (zae (@zbe _ _ _ _ _ _ _ _ (@PW.pt _ _ _ (@zfk _ _ _ _ _ _ _ (@zaj _ _ _ _ _ _ _ _ zbJ (pv 2) yac (zam _)) (@zdt _ _ _ _ (@zaj _ _ _ _ _ _ _ _ ybw (yad h__law_pick hr (by decide) rfl (zaa (pv 0) (zaa yac yab ⋯) ⋯) (by decide) ⋯ ⋯) yac (zam _))))) (zae (@yaf _ _ 12 _ _ _ _ zai.nd rfl (Or.inl rfl) (yag yeQ (pv 12) (yad h__law_ring hr (by decide) rfl (zaa (yag yas (pv 13) (pv 15)) (zaa (pv 10) (zaa (pv 7) yab ⋯) ⋯) ⋯) (by decide) ⋯ ⋯)) ⋯ (by trivial))) zaw)) (by intro _;rfl)))) zaw))))) (zae (@yal _ _ _ _ (@yaQ _ _ _ _ _ (zaa (pv 4) (zaa (@yaQ _ _ _ _ _ (zaa (@ya3 _ _ _ _ _ _ (yb8 hr) (pv 4) yaK (fun _ _=>rfl)) (zaa (pv 6) (zaa (pv 11) (zaa (zat yav rfl (B "tuple" (by decide)) zav (zaa (@zcG _ _ _ _ _ _ _ rfl rfl (B "sorted" (by decide)) rfl (B "set" (by decide)) (pv 12) ⋯ ⋯) yab ⋯) (by decide) (by decide) ⋯ ⋯) yab ⋯) ⋯) ⋯) ⋯)) yab ⋯) ⋯)))))))))))))))),?_⟩
  refine ⟨_,rfl,pu,g,6,rfl,hP,by omega,by omega,fun way H1 hway hP1 sx1=>?_⟩
  refine ⟨_,rfl,pu,g,3,rfl,hP1,by omega,by omega,fun far H2 hfar hP2 sx2=>?_⟩
  refine ⟨_,_,rfl,?_⟩
  refine ⟨_,rfl,pu,g,rfl,hP2,fun fa p m t H3 nf1 nf2 nf ef G hP3 sx3=>?_⟩
  refine ⟨fa,p,m,t,rfl,ef,G,fun tb pa la b H4 ntb npa nla T4 s4=>?_⟩
  have hP4:=hP3.same s4
  have ap:ygK pu g tb fa pa la:=⟨(hP3.lt ntb).1,(hP3.lt ntb).2,nf1,nf2,(hP3.lt npa).1,(hP3.lt npa).2,(hP3.lt nla).1,(hP3.lt nla).2⟩
  have sx4:=(sx1.trans (sx2.trans sx3)).trans (Same.x s4)
  have hp:=G.hp
  have hm:=G.hm
  have hQ:=G.hq
  have hQ2:=zaC hp hm
  have hm6:=m_le hp hQ
  refine ⟨_,rfl,tb,_,rfl,T4.get zgM,_,_,rfl,rfl,?_⟩
  refine ⟨1,((m+1:Nat):Int),rfl,by omega,?_⟩
  refine zaI ya9 (fun k acc H'=>H'=H4∧∃fs:List Nat,acc=fs.map Vn∧(∀f∈fs,1≤f∧m%f=0)∧fs.length≤k∧(0<k→0<fs.length)) ⟨rfl,([]:List Nat),rfl,fun f hf=>absurd hf (by simp),Nat.le_refl _,fun h=>absurd h (Nat.lt_irrefl _)⟩ (fun _ _ _ _ _=>trivial) ?_ ?_ ?_
  · rintro k acc H' hk ⟨_,fs,rfl,_,hl,_⟩
    rw [List.length_map];exact yap (by omega)
  · rintro k acc x H' H'' hk ⟨rfl,fs,rfl,hfs,hl,h0⟩ ⟨rfl,rfl⟩
    refine ⟨_,rfl,tb,_,rfl,T4.get zgM,_,rfl,_,_,rfl,rfl,by show (0:Int)<1+(k:Int);omega,rfl,_,rfl,?_⟩
    have ed:decide (V.int ((m:Int)%(1+(k:Int)))=V.int 0)=decide (m%(1+k)=0):=by rw [show (1+(k:Int))=((1+k:Nat):Int) by omega];exact zfM _ _
    refine ite2 (fun c=>?_) (fun c=>?_)
    · have c1:m%(1+k)=0:=by rw [ed] at c;exact of_decide_eq_true c
      refine ⟨_,rfl,rfl,fs++[1+k],?_,?_,by simp;omega,fun _=>by simp⟩
      · rw [List.map_append,show V.int (1+(k:Int))=Vn (1+k) from ycu (by omega)];rfl
      · intro f hf
        rcases List.mem_append.mp hf with h|h
        · exact hfs f h
        · cases List.mem_singleton.mp h;exact ⟨by omega,c1⟩
    · refine ⟨rfl,fs,rfl,hfs,by omega,fun _=>?_⟩
      by_cases c0:k=0
      · subst c0
        refine absurd ?_ c
        rw [ed,decide_eq_true (by show m%1=0;exact Nat.mod_one m)]
      · exact h0 (by omega)
  rintro acc H5 ⟨rfl,fs,rfl,hfs,hfl,hf0⟩ fl hfl'
  have hfl2:fs.length≤m:=by omega
  have hf1:0<fs.length:=hf0 (by omega)
  have s5:=zac hfl' (.lst (fs.map Vn))
  have T5:=T4.same s5
  have hP5:=hP4.same s5
  have nfl:=hP4.lt hfl'
  have e5:upd H5 fl (.lst (fs.map Vn)) fl=some (.lst (fs.map Vn)):=zab
  have sx5:=sx4.trans (Same.x s5)
  dsimp only [zau]
  generalize upd H5 fl (.lst (fs.map Vn))=H5' at s5 T5 hP5 e5 sx5 ⊢
  refine ⟨_,rfl,_,rfl,_,rfl,fl,_,rfl,.inl (SqL.of e5),?_⟩
  refine ⟨pu,g,fs.length,by rw [List.length_map];rfl,hP5,hf1,by omega,fun fi H6 hfi hP6 sx6=>?_⟩
  have hfew:=hfs (fs.getD fi 0) (by
    have:=List.getElem_mem hfi
    rwa [show fs.getD fi 0=fs[fi] by simp [List.getD,hfi]])
  have e6:=sx6 _ _ nfl.1 nfl.2 e5
  have sx6':=sx5.trans sx6
  refine ⟨fl,_,_,Vn (fs.getD fi 0),rfl,rfl,SqL.of e6,ybc (zaB hfi),?_⟩
  generalize fs.getD fi 0=few at hfew ⊢
  have hfewm:few≤m:=Nat.le_of_dvd (by omega) (Nat.dvd_of_mod_eq_zero hfew.2)
  have T6:=T5.x ap sx6
  dsimp only [zau]
  refine ⟨_,rfl,tb,_,rfl,T6.get yhd,_,rfl,p,few,rfl,p_le hp hm hQ,by omega,?_⟩
  have hqq:p^few≤64:=Nat.le_trans (Nat.pow_le_pow_right (by omega) hfewm) hQ
  dsimp only [zau]
  refine ⟨_,rfl,tb,_,rfl,T6.get yek,?_⟩
  refine ⟨1,((p^m:Nat):Int),rfl,by omega,?_⟩
  refine zaI ya9 (fun k acc H'=>Same H6 H'∧∃ts:List Addr,acc=ts.map V.ref∧ts.length=k∧(∀a∈ts,ybi p m t H' a)∧(0<k→∃a∈ts,pn H' a=1)) ⟨Same.refl _,([]:List Addr),rfl,rfl,fun a ha=>absurd ha (by simp),fun h=>absurd h (Nat.lt_irrefl _)⟩ (fun _ _ _ _ _=>trivial) ?_ ?_ ?_
  · rintro k acc H' hk ⟨_,ts,rfl,hl,_⟩
    rw [List.length_map,hl];exact yap (by omega)
  · rintro k acc x H' H'' hk ⟨s',ts,rfl,hl,hts,h1⟩ ⟨rfl,rfl⟩
    have hk2:1+k<p^m:=by omega
    refine ⟨_,rfl,_,rfl,tb,fa,pa,la,p,m,t,b,1+k,?_,T6.same s',by omega,hk2,fun n o hn=>?_⟩
    · rw [show (1+(k:Int))=((1+k:Nat):Int) by omega];rfl
    refine ⟨_,rfl,szl 2,fun a ha=>?_⟩
    have sn:=zac ha (.tup [Vn n,.int (1+(k:Int))])
    have en:upd H'' a (.tup [Vn n,.int (1+(k:Int))]) a=some (.tup [Vn n,Vn (1+k)]):=by rw [zab];congr 1
    refine ⟨s'.trans sn,ts++[a],by rw [List.map_append];rfl,by simp [hl],?_,?_⟩
    · intro a' ha'
      rcases List.mem_append.mp ha' with h|h
      · exact (hts a' h).same sn
      · cases List.mem_singleton.mp h
        exact ⟨n,1+k,en,o,hn,by omega,hk2⟩
    · intro _
      by_cases c0:k=0
      · subst c0
        refine ⟨a,by simp,?_⟩
        rw [zb1 en]
        have h2:=o.pos
        have h3:=o.le (k:=1) (by omega) (by rw [zdr hp hm (by omega)])
        omega
      · obtain ⟨a',ha',e'⟩:=h1 (by omega)
        obtain ⟨n',x',hx',_⟩:=hts a' ha'
        exact ⟨a',List.mem_append_left _ ha',by rw [zb1 (sn _ _ hx'),←zb1 hx'];exact e'⟩
  rintro acc H7 ⟨s7,ts,rfl,htl,hts,hone⟩ rl hrl
  have htl2:ts.length=p^m-1:=by
    rw [htl,show ((p^m:Nat):Int)-1=((p^m-1:Nat):Int) by omega];rfl
  obtain ⟨a1,ha1,ea1⟩:=hone (by omega)
  have s7':=s7.trans (zac hrl (.lst (ts.map V.ref)))
  have T7:=T6.same s7'
  have hP7:=hP6.same s7'
  have nrl:=(hP6.same s7).lt hrl
  have e7:upd H7 rl (.lst (ts.map V.ref)) rl=some (.lst (ts.map V.ref)):=zab
  have hts7:∀a∈ts,ybi p m t (upd H7 rl (.lst (ts.map V.ref))) a:=fun a ha=>(hts a ha).same (zac hrl _)
  have ea7:pn (upd H7 rl (.lst (ts.map V.ref))) a1=1:=by
    obtain ⟨n',x',hx',_⟩:=hts a1 ha1
    rw [zb1 (zac hrl _ _ _ hx'),←zb1 hx'];exact ea1
  have sx7:=sx6'.trans (Same.x s7')
  dsimp only [zau]
  generalize upd H7 rl (.lst (ts.map V.ref))=H8 at s7' T7 hP7 e7 hts7 ea7 sx7 ⊢
  refine ⟨_,rfl,rl,rfl,⟨_,SqL.of e7⟩,?_⟩
  refine zaI (za1 (xs:=ts.map V.ref)) (fun k acc H'=>H'=H8∧acc=((ts.take k).filter fun a=>decide (pn H8 a≤most)).map V.ref) ⟨rfl,rfl⟩ (fun i acc H' _ h=>h.1 ▸ SqL.of e7) ?_ ?_ ?_
  · rintro k acc H' hk ⟨_,rfl⟩
    have:=List.length_filter_le (fun a=>decide (pn H8 a≤most)) (ts.take k)
    rw [List.length_take] at this
    rw [List.length_map];exact yap (by omega)
  · rintro k acc z H' H'' hk ⟨rfl,rfl⟩ ⟨rfl,ez⟩
    obtain ⟨a,ea,rfl⟩:=ydZ ez
    obtain ⟨n,x,hx,_⟩:=hts7 a (List.mem_of_getElem? ea)
    refine ⟨_,rfl,a,_,_,Vn n,rfl,rfl,SqT.of hx,rfl,_,rfl,_,_,rfl,rfl,_,rfl,?_⟩
    rw [ybR ea,List.filter_append]
    refine ite2 (fun c=>?_) (fun c=>?_)
    · have c1:n≤most:=by have:=of_decide_eq_true c;omega
      refine ⟨_,rfl,rfl,?_⟩
      rw [List.map_append]
      simp [zb1 hx,c1]
    · have c1:¬ n≤most:=fun h=>c (decide_eq_true (by omega))
      refine ⟨rfl,?_⟩
      simp [zb1 hx,c1]
  rw [List.length_map]
  rintro acc H9 ⟨rfl,rfl⟩ r2 hr2
  rw [List.take_length]
  obtain ⟨us,hus⟩:∃us,us=ts.filter fun a=>decide (pn H9 a≤most):=⟨_,rfl⟩
  rw [←hus]
  have hu1:∀a∈us,ybi p m t H9 a∧pn H9 a≤most:=fun a ha=>by
    rw [hus] at ha
    have:=List.mem_filter.mp ha
    exact ⟨hts7 a this.1,of_decide_eq_true this.2⟩
  have hu0:a1∈us:=by rw [hus];exact List.mem_filter.mpr ⟨ha1,decide_eq_true (by rw [ea7];exact hmost)⟩
  have hul:us.length≤63:=by
    have:=List.length_filter_le (fun a=>decide (pn H9 a≤most)) ts
    rw [←hus] at this
    omega
  clear hus
  have pk:∀ {H H':Hp},Same H H'→∀a,ybi p m t H a→pn H' a=pn H a:=fun s a ⟨n,x,h,_⟩=>by rw [zb1 (s _ _ h),zb1 h]
  have s9:=zac hr2 (.lst (us.map V.ref))
  have T9:=T7.same s9
  have hP9:=hP7.same s9
  have n2:=hP7.lt hr2
  have e9:upd H9 r2 (.lst (us.map V.ref)) r2=some (.lst (us.map V.ref)):=zab
  have hu9:∀a∈us,ybi p m t (upd H9 r2 (.lst (us.map V.ref))) a∧pn (upd H9 r2 (.lst (us.map V.ref))) a≤most:=fun a ha=>⟨(hu1 a ha).1.same s9,by rw [pk s9 a (hu1 a ha).1];exact (hu1 a ha).2⟩
  have sx9:=sx7.trans (Same.x s9)
  dsimp only [zau]
  generalize upd H9 r2 (.lst (us.map V.ref))=HA at s9 T9 hP9 e9 hu9 sx9 ⊢
  refine ⟨_,rfl,r2,rfl,⟨_,SqL.of e9⟩,?_⟩
  refine zaI (za1 (xs:=us.map V.ref)) (fun k acc H'=>H'=HA∧acc=((us.take k).map (pn HA)).map Vn) ⟨rfl,rfl⟩ (fun i acc H' _ h=>h.1 ▸ SqL.of e9) ?_ ?_ ?_
  · rintro k acc H' hk ⟨_,rfl⟩
    rw [List.length_map,List.length_map,List.length_take];exact yap (by omega)
  · rintro k acc z H' H'' hk ⟨rfl,rfl⟩ ⟨rfl,ez⟩
    obtain ⟨a,ea,rfl⟩:=ydZ ez
    obtain ⟨⟨n,x,hx,_⟩,_⟩:=hu9 a (List.mem_of_getElem? ea)
    refine ⟨_,rfl,a,_,_,Vn n,rfl,rfl,SqT.of hx,rfl,rfl,?_⟩
    rw [ybR ea,List.map_append,List.map_append,show [a].map (pn H'')=[n] by rw [List.map_singleton,zb1 hx]];rfl
  rw [List.length_map]
  rintro acc HB ⟨rfl,rfl⟩ gl' hgl'
  rw [List.take_length]
  refine ⟨gl',(us.map (pn HB)).map (fun n:Nat=>(n:Int)),rfl,SqL.of (by rw [mapI];exact zab),by rw [List.length_map,List.length_map];exact List.length_pos_of_mem hu0,fun M hM1 hM2=>?_⟩
  obtain ⟨M,hM,rfl⟩:=List.mem_map.mp hM1
  obtain ⟨aM,haM,eM⟩:=List.mem_map.mp hM
  have sB:=zac hgl' (.lst ((us.map (pn HB)).map Vn))
  have TB:=T9.same sB
  have hPB:=hP9.same sB
  have eB:=sB _ _ e9
  have huB:∀a∈us,ybi p m t (upd HB gl' (.lst ((us.map (pn HB)).map Vn))) a∧pn (upd HB gl' (.lst ((us.map (pn HB)).map Vn))) a≤most:=fun a ha=>⟨(hu9 a ha).1.same sB,by rw [pk sB a (hu9 a ha).1];exact (hu9 a ha).2⟩
  have eMB:pn (upd HB gl' (.lst ((us.map (pn HB)).map Vn))) aM=M:=by rw [pk sB aM (hu9 aM haM).1];exact eM
  have sxB:=sx9.trans (Same.x sB)
  dsimp only [zau]
  generalize upd HB gl' (.lst ((us.map (pn HB)).map Vn))=HC at sB TB hPB eB huB eMB sxB ⊢
  change tSeq (tIfS _ _ _) _ _ _ _
  refine yba (fun σ H'=>∃(rr:Addr) (ws:List Addr),Same HC H'∧H' rr=some (.lst (ws.map V.ref))∧(rr≠pu∧rr≠g)∧0<ws.length∧ws.length≤63∧(∀a∈ws,ybi p m t H' a∧pn H' a≤most)∧
    σ=[some (.ref pu),some (Vn most),some (Vn way),some (Vn far),some (.ref tb),some (.ref fl),some (Vn few),some (Vn (p^few)),some (.ref rr),some (Vn M),none,none,none,none,none,none]) ?_ ?_
  · rintro σ HE ⟨rr,ws,sE,eE,nrr,hw0,hw1,hws,rfl⟩
    have TE:=TB.same sE
    have hPE:=hPB.same sE
    have sxE:=sxB.trans (Same.x sE)
    refine ⟨_,rfl,_,rfl,_,rfl,rr,_,rfl,.inl (SqL.of eE),?_⟩
    refine ⟨pu,g,ws.length,by rw [List.length_map];rfl,hPE,hw0,by omega,fun wi HF hwi hPF sxF=>?_⟩
    have hwm:ws[wi]∈ws:=List.getElem_mem hwi
    obtain ⟨⟨n,root,hpr,ord,hnq,r0,rq⟩,hmo⟩:=hws _ hwm
    rw [zb1 hpr] at hmo
    have npr:=hPE.tup_ne hpr
    have hprF:=sxF _ _ npr.1 npr.2 hpr
    have eF:=sxF _ _ nrr.1 nrr.2 eE
    have TF:=TE.x ap sxF
    have sxF':=sxE.trans sxF
    have hn0:=ord.pos
    refine ⟨rr,_,_,.ref ws[wi],rfl,rfl,SqL.of eF,ybc (by rw [List.getElem?_map,List.getElem?_eq_getElem hwi];rfl),?_⟩
    refine ⟨ws[wi],_,rfl,SqT.of hprF,rfl,_,_,rfl,_,_,rfl,rfl,?_⟩
    refine ⟨szl 0,fun m0 hm0=>?_⟩
    have sG:=zac hm0 (.lst [])
    have hPG:=hPF.same sG
    have nm0:=hPF.lt hm0
    have eG:upd HF m0 (.lst []) m0=some (.lst (([]:List Nat).map Vn)):=zab
    have TG:=TF.same sG
    have sxG:=sxF'.trans (Same.x sG)
    dsimp only [zau]
    generalize upd HF m0 (.lst [])=HG at sG hPG eG TG sxG ⊢
    have hrnd:=Ord.round G r0 rq ord hfew.2 hfew.1
    have hme:1≤m/few:=Nat.div_pos hfewm hfew.1
    have hme2:m/few≤6:=Nat.le_trans (Nat.div_le_self _ _) hm6
    change tSeq (tIfS _ _ _) _ _ _ _
    refine yba (fun σ H'=>Pu H' pu g∧yar pu g HG H'∧∃(ml:Addr) (ns:List Nat) (s13 s14 s15:Option V),H' ml=some (.lst (ns.map Vn))∧(ml≠pu∧ml≠g)∧ns.length≤400∧(∀x∈ns,x<n)∧(∀x∈ns,x*p^few%n∈ns)∧
      σ=[some (.ref pu),some (Vn most),some (Vn way),some (Vn far),some (.ref tb),some (.ref fl),some (Vn few),some (Vn (p^few)),some (.ref rr),some (Vn M),some (Vn n),some (Vn root),some (.ref ml),s13,s14,s15]) ?_ ?_
    · rintro σ HI ⟨hPI,sxI,ml,ns,s13,s14,s15,eI,nml,hnl,hnn,hnc,rfl⟩
      have TI:=TG.x ap sxI
      refine ⟨_,rfl,_,rfl,tb,_,rfl,TI.get yfj,_,rfl,_,rfl,_,rfl,ml,ns.map (fun n:Nat=>(n:Int)),rfl,SqL.of (by rw [mapI];exact eI),by rw [List.length_map];omega,?_,?_⟩
      · intro ks hks hsub
        have:=zbQ (τ:=(List.range n).map fun i:Nat=>(i:Int)) hks fun k hk=>by
          obtain ⟨x,hx,rfl⟩:=List.mem_map.mp (hsub k hk)
          exact List.mem_map.mpr ⟨x,List.mem_range.mpr (hnn x hx),rfl⟩
        rw [List.length_map,List.length_range] at this
        omega
      · intro l2 ns' hl2 hasc hmem
        obtain ⟨marks,hmk⟩:∃marks:List Nat,ns'=marks.map fun x:Nat=>(x:Int):=by
          refine ⟨ns'.map Int.toNat,?_⟩
          rw [List.map_map]
          conv=>lhs;rw [←List.map_id ns']
          refine List.map_congr_left fun k hk=>?_
          obtain ⟨x,_,rfl⟩:=List.mem_map.mp ((hmem k).mp hk)
          rfl
        subst hmk
        have hmm:∀x:Nat,x∈marks↔x∈ns:=fun x=>by
          have:=hmem (x:Int)
          constructor
          · intro h
            obtain ⟨y,hy,e⟩:=List.mem_map.mp (this.mp (List.mem_map_of_mem h))
            rw [←Int.ofNat.inj e];exact hy
          · intro h
            obtain ⟨y,hy,e⟩:=List.mem_map.mp (this.mpr (List.mem_map_of_mem h))
            rw [←Int.ofNat.inj e];exact hy
        have hasc2:marks.Pairwise (· < ·):=by
          rw [List.pairwise_map] at hasc
          exact hasc.imp fun h=>by omega
        rw [mapI]
        have s2:=zac hl2 (.lst (marks.map Vn))
        refine ⟨l2,_,rfl,.inl ⟨SqL.of zab,fun mk hmk=>?_⟩⟩
        have s3:=zac hmk (.tup (marks.map Vn))
        refine ⟨szl 4,fun wh hwh=>?_⟩
        have s4':=zac hwh (.tup [.ref fa,Vn few,Vn root,.ref mk])
        refine ⟨szl 2,fun r hr=>?_⟩
        have s5':=zac hr (.tup [.ref tb,.ref wh])
        have hP2':=hPI.same s2
        have hP3':=hP2'.same s3
        have hP4':=hP3'.same s4'
        refine q r tb fa pa la wh mk p m t b few root n marks _ zab ((((TI.same s2).same s3).same s4').same s5') ap ⟨s5' _ _ zab,s5' _ _ (s4' _ _ zab)⟩ (hP3'.lt hwh) (hP2'.lt hmk) (hP4'.lt hr) ⟨hfew.1,hfew.2,r0,rq,ord,hnq,hasc2,fun x hx=>hnn x ((hmm x).mp hx),fun x hx=>(hmm _).mpr (hnc x ((hmm x).mp hx))⟩ hmo (hP4'.same s5') ?_
        exact (sxG.trans sxI).trans (Same.x (((s2.trans s3).trans s4').trans s5'))
    · intro D' _ _ _ hD'
      refine ⟨_,rfl,rfl,_,rfl,?_⟩
      refine ite2 (fun c=>?_) (fun c=>?_)
      · refine ⟨_,rfl,(n:Int),rfl,fun rg hrg=>⟨rg,0,(n:Int),rfl,zab,by omega,by rw [show ((n:Int)-0).toNat=n by omega];exact szl _ (by omega),fun l hl=>?_⟩⟩
        have s1':=zac hrg (.rng 0 (n:Int))
        have e1:L2.intsFrom 0 ((n:Int)-0).toNat=(List.range n).map Vn:=by
          rw [show ((n:Int)-0).toNat=n by omega]
          unfold L2.intsFrom
          refine List.map_congr_left fun i _=>?_
          rw [Int.zero_add]
        rw [e1]
        have s2':=zac hl (.lst ((List.range n).map Vn))
        exact hD' _ _ ⟨(hPG.same s1').same s2',Same.x (s1'.trans s2'),l,List.range n,_,_,_,zab,(hPG.same s1').lt hl,by rw [List.length_range];omega,fun x hx=>List.mem_range.mp hx,fun x _=>List.mem_range.mpr (Nat.mod_lt _ (by omega)),rfl⟩
      · refine ⟨_,rfl,rfl,_,rfl,?_⟩
        refine ite2 (fun c=>?_) (fun c=>?_)
        · refine ⟨_,rfl,_,rfl,pu,g,n,rfl,hPG,by omega,by omega,fun i HJ hi hPJ sxJ=>?_⟩
          refine ⟨_,rfl,_,rfl,i,n,p^few,m/few,rfl,by omega,by omega,hqq,hme,hme2,hrnd,fun r ns HK sK nr er h1 h2 h3 h4 _ _ _=>?_⟩
          exact hD' _ _ ⟨hPJ.same sK,sxJ.trans (Same.x sK),r,ns,_,_,_,er,hPJ.lt nr,by omega,h3,h4,rfl⟩
        · refine ⟨_,rfl,_,_,rfl,rfl,_,rfl,?_⟩
          refine ite2 (fun c=>?_) (fun c=>?_)
          · refine ⟨_,rfl,_,rfl,pu,g,n,rfl,hPG,by omega,by omega,fun first HJ hfi hPJ sxJ=>?_⟩
            refine ⟨_,rfl,_,rfl,pu,g,n,rfl,hPJ,by omega,by omega,fun many HK hma hPK sxK=>?_⟩
            refine ⟨_,_,rfl,?_⟩
            refine ⟨_,rfl,many,rfl,by omega,by omega,?_⟩
            have eK:=sxK _ _ nm0.1 nm0.2 (sxJ _ _ nm0.1 nm0.2 eG)
            refine zbl (n:=many) (fun k σ H'=>Pu H' pu g∧yar pu g HG H'∧∃(ml:Addr) (ns:List Nat) (s15:Option V),H' ml=some (.lst (ns.map Vn))∧(ml≠pu∧ml≠g)∧ns.length≤6*k∧(∀x∈ns,x<n)∧(∀x∈ns,x*p^few%n∈ns)∧
              σ=[some (.ref pu),some (Vn most),some (Vn way),some (Vn far),some (.ref tb),some (.ref fl),some (Vn few),some (Vn (p^few)),some (.ref rr),some (Vn M),some (Vn n),some (Vn root),some (.ref ml),some (Vn first),some (Vn many),s15])
              ⟨hPK,sxJ.trans sxK,m0,[],_,eK,nm0,by decide,fun x hx=>absurd hx (by simp),fun x hx=>absurd hx (by simp),rfl⟩ ?_ ?_
            · rintro k σ HL hk ⟨hPL,sxL,ml,ns,s15,eL,nml,hnl,hnn,hnc,rfl⟩
              have body:∀HM,Pu HM pu g→yar pu g HL HM→∀Q:V→Hp→Prop,(∀l (ns':List Nat) H',Pu H' pu g→yar pu g HG H'→H' l=some (.lst (ns'.map Vn))→(l≠pu∧l≠g)→ns'.length≤6*(k+1)→(∀x∈ns',x<n)→(∀x∈ns',x*p^few%n∈ns')→Q (.ref l) H')→
                  tOp rCat (tVar 12) (ygk zcc [] E0 (zcE (tOp (rI0 fun i j=>V.int (i+j)) (tVar 13) (tVar 15)) (zcE (tVar 10) (zcE (tVar 7) tNil)))) [some (.ref pu),some (Vn most),some (Vn way),some (Vn far),some (.ref tb),some (.ref fl),some (Vn few),some (Vn (p^few)),some (.ref rr),some (Vn M),some (Vn n),some (Vn root),some (.ref ml),some (Vn first),some (Vn many),some (.int (0+(k:Int)))] HM Q:=by
                intro HM hPM sxM Q hQ
                have eM:=sxM _ _ nml.1 nml.2 eL
                refine ⟨_,rfl,_,rfl,_,rfl,_,_,rfl,rfl,_,rfl,_,rfl,first+k,n,p^few,m/few,?_,by omega,by omega,hqq,hme,hme2,hrnd,fun r rs HN sN nr er h1 h2 h3 h4 _ _ _=>?_⟩
                · show [V.int ((first:Int)+(0+(k:Int))),Vn n,Vn (p^few)]=[Vn (first+k),Vn n,Vn (p^few)]
                  rw [show (first:Int)+(0+(k:Int))=((first+k:Nat):Int) by omega]
                refine ⟨ml,r,_,_,rfl,rfl,sN _ _ eM,er,by rw [List.length_map,List.length_map];exact szl _ (by omega),fun l hl=>?_⟩
                rw [←List.map_append]
                have sO:=zac hl (.lst ((ns++rs).map Vn))
                refine hQ l (ns++rs) _ ((hPM.same sN).same sO) ((sxL.trans sxM).trans (Same.x (sN.trans sO))) zab ((hPM.same sN).lt hl) (by rw [List.length_append];omega) (fun x hx=>?_) (fun x hx=>?_)
                · rcases List.mem_append.mp hx with h|h
                  · exact hnn x h
                  · exact h3 x h
                · rcases List.mem_append.mp hx with h|h
                  · exact List.mem_append_left _ (hnc x h)
                  · exact List.mem_append_right _ (h4 x h)
              refine ⟨_,rfl,_,_,rfl,rfl,_,rfl,?_⟩
              refine ite2 (fun c=>?_) (fun c=>?_)
              · refine ite2 (fun _=>?_) (fun h=>absurd rfl h)
                exact body HL hPL yar.refl _ fun l ns' H' a1 a2 a3 a4 a5 a6 a7=>⟨a1,a2,l,ns',_,a3,a4,a5,a6,a7,rfl⟩
              · refine ⟨_,rfl,pu,g,3,rfl,hPL,by omega,by omega,fun v HM hv hPM sxM=>?_⟩
                refine ⟨rfl,_,rfl,?_⟩
                refine ite2 (fun _=>?_) (fun _=>?_)
                · exact body HM hPM sxM _ fun l ns' H' a1 a2 a3 a4 a5 a6 a7=>⟨a1,a2,l,ns',_,a3,a4,a5,a6,a7,rfl⟩
                · exact ⟨hPM,sxL.trans sxM,ml,ns,_,sxM _ _ nml.1 nml.2 eL,nml,by omega,hnn,hnc,rfl⟩
            · rintro σ HL ⟨hPL,sxL,ml,ns,s15,eL,nml,hnl,hnn,hnc,rfl⟩
              exact hD' _ _ ⟨hPL,sxL,ml,ns,_,_,_,eL,nml,by omega,hnn,hnc,rfl⟩
          · exact hD' _ _ ⟨hPG,yar.refl,m0,[],_,_,_,eG,nm0,by decide,fun x hx=>absurd hx (by simp),fun x hx=>absurd hx (by simp),rfl⟩
  · intro D' _ _ _ hD'
    refine ⟨_,rfl,_,_,rfl,rfl,_,rfl,?_⟩
    refine ite2 (fun c=>?_) (fun c=>?_)
    · refine ⟨_,rfl,r2,rfl,⟨_,SqL.of eB⟩,?_⟩
      refine zaI (za1 (xs:=us.map V.ref)) (fun k acc H'=>H'=HC∧acc=((us.take k).filter fun a=>decide (pn HC a=M)).map V.ref) ⟨rfl,rfl⟩ (fun i acc H' _ h=>h.1 ▸ SqL.of eB) ?_ ?_ ?_
      · rintro k acc H' hk ⟨_,rfl⟩
        have:=List.length_filter_le (fun a=>decide (pn HC a=M)) (us.take k)
        rw [List.length_take] at this
        rw [List.length_map];exact yap (by omega)
      · rintro k acc z H' H'' hk ⟨rfl,rfl⟩ ⟨rfl,ez⟩
        obtain ⟨a,ea,rfl⟩:=ydZ ez
        obtain ⟨⟨n,x,hx,_⟩,_⟩:=huB a (List.mem_of_getElem? ea)
        refine ⟨_,rfl,a,_,_,Vn n,rfl,rfl,SqT.of hx,rfl,_,rfl,rfl,_,rfl,?_⟩
        have ed:decide (Vn n=Vn M)=decide (n=M):=decide_eq_decide.mpr ⟨fun e=>Int.ofNat.inj (V.int.inj e),fun e=>by rw [e]⟩
        rw [ybR ea,List.filter_append,ed]
        refine ite2 (fun c=>?_) (fun c=>?_)
        · have c1:n=M:=of_decide_eq_true c
          refine ⟨_,rfl,rfl,?_⟩
          rw [List.map_append]
          simp [zb1 hx,c1]
        · have c1:¬ n=M:=fun h=>c (decide_eq_true h)
          refine ⟨rfl,?_⟩
          simp [zb1 hx,c1]
      rw [List.length_map]
      rintro acc HD ⟨rfl,rfl⟩ r3 hr3
      rw [List.take_length]
      have s3:=zac hr3 (.lst ((us.filter fun a=>decide (pn HD a=M)).map V.ref))
      refine hD' _ _ ⟨r3,us.filter fun a=>decide (pn HD a=M),s3,zab,hPB.lt hr3,?_,?_,?_,rfl⟩
      · exact List.length_pos_of_mem (List.mem_filter.mpr ⟨haM,decide_eq_true eMB⟩)
      · exact Nat.le_trans (List.length_filter_le _ _) hul
      · intro a ha
        have h1:=huB a (List.mem_filter.mp ha).1
        exact ⟨h1.1.same s3,by rw [pk s3 a h1.1];exact h1.2⟩
    · exact hD' _ _ ⟨r2,us,Same.refl _,eB,n2,List.length_pos_of_mem hu0,hul,huB,rfl⟩
end
end My
end
section
-- text: PN
namespace L2
open PySem PyProof.Rows
end L2
namespace My
open PySem L2 Dg
local macro_rules | `(tactic| walk_at "rd") => `(tactic| repeat (first | refine ⟨_, rfl, ?_⟩ | refine ⟨_, _, rfl, rfl, ?_⟩))
section
variable {P:Program} {w:World} {K:PySem.W.Frag} {mg:Str→Option Value} {base:Heap} {f:Addr} {fd:FuncData}
end
end My
end
section
-- text: PG
namespace My
open PySem L2 Dg
local macro_rules | `(tactic| walk_at "rd") => `(tactic| repeat (first | refine ⟨_, rfl, ?_⟩ | refine ⟨_, _, rfl, rfl, ?_⟩))
section
variable {p m t:Nat} (G:Good p m t)
include G
end
theorem ydc {K:PySem.W.Frag} {H:Hp} {a:Addr} {n:Nat} {Q:VK} (h:SqT K H a [.int 0]) (hn:n≤1000) (q:∀p H',Same H H'→SqT K H' p ((List.replicate n 0).map Vn)→Q (.ref p) H'):zgP K (.ref a) (Vn n) H Q:=by
  refine ⟨a,n,[.int 0],rfl,rfl,h,by simp,by omega,by omega,?_,fun e=>?_,fun e p hp=>?_⟩
  · rw [show ((n:Int)).toNat=n from rfl]
    exact szl _ (by simp;omega)
  · have e:n=1:=by omega
    subst e
    exact q a H (Same.refl _) h
  · refine q p _ (zac hp _) (SqT.of ?_)
    rw [zab]
    congr 2
    rw [show ((n:Int)).toNat=n from rfl,ycd]
theorem zcU {K:PySem.W.Frag} {H:Hp} {a b:Addr} {xs ys:List V} {Q:VK} (ha:SqT K H a xs) (hb:SqT K H b ys) (hz:xs.length+ys.length≤1000) (q:∀p H',Same H H'→SqT K H' p (xs++ys)→Q (.ref p) H'):zgE K (.ref a) (.ref b) H Q:=by
  refine ⟨a,b,xs,ys,rfl,rfl,ha,hb,szl _ (by omega),fun e=>?_,fun e1 e2=>?_,fun e1 e2 p hp=>?_⟩
  · subst e;exact q b H (Same.refl _) hb
  · subst e2;exact q a H (Same.refl _) (by rw [List.append_nil];exact ha)
  · exact q p _ (zac hp _) (SqT.of zab)
section
variable {P:Program} {w:World} {K:PySem.W.Frag} {mg:Str→Option Value} {base:Heap} {f:Addr} {fd:FuncData}
end
end My
end
section
-- text: PK
namespace My
open PySem L2 Dg
local macro_rules | `(tactic| walk_at "rd") => `(tactic| repeat (first | refine ⟨_, rfl, ?_⟩ | refine ⟨_, _, rfl, rfl, ?_⟩))
theorem ygz {marks:List Nat} {n:Nat} (h:marks.Pairwise (· < ·)) (hl:∀x∈marks,x<n):marks.length≤n:=by
  have:=zbQ (σ:=marks) (τ:=List.range n) (h.imp fun h=>by omega) fun x hx=>List.mem_range.mpr (hl x hx)
  rwa [List.length_range] at this
section
variable {P:Program} {w:World} {K:PySem.W.Frag} {mg:Str→Option Value} {base:Heap} {f:Addr} {fd:FuncData}
end
end My
end
section
-- text: PL
namespace My
open PySem L2 Dg
local macro_rules | `(tactic| walk_at "rd") => `(tactic| repeat (first | refine ⟨_, rfl, ?_⟩ | refine ⟨_, _, rfl, rfl, ?_⟩))
section
variable {p m t N:Nat} (hp:2≤p) (hm:1≤m)
include hp hm
end
def lets (p m t few:Nat):List Nat:=(List.range (p^m)).filter fun x=>decide (pw p m t x (p^few)=x)
theorem ygt {p m t few:Nat}:∀x∈lets p m t few,x<p^m:=fun x hx=>List.mem_range.mp (List.mem_filter.mp hx).1
section
variable {P:Program} {w:World} {K:PySem.W.Frag} {mg:Str→Option Value} {base:Heap} {f:Addr} {fd:FuncData}
def mkS (p m t r:Nat) (row:List Nat):List Nat:=(List.range (row.length+1)).map fun i=>sub p m ((0::row).getD i 0) (mul p m t r ((row++[0]).getD i 0))
def mkL (p m t root:Nat) (marks:List Nat):List Nat:=marks.foldl (fun row k=>mkS p m t (pw p m t root k) row) [1]
theorem yc5 (p m t r:Nat) (row:List Nat):(mkS p m t r row).length=row.length+1:=by simp [mkS]
theorem zfj (p m t root:Nat):∀(marks row:List Nat),(marks.foldl (fun row k=>mkS p m t (pw p m t root k) row) row).length=row.length+marks.length
  | [],row=>rfl
  | k::marks,row=>by rw [List.foldl_cons,zfj p m t root marks,yc5,List.length_cons];omega
theorem yb0 (p m t root:Nat) (marks:List Nat):(mkL p m t root marks).length=marks.length+1:=by unfold mkL;rw [zfj];simp;omega
theorem ygO {p m t r:Nat} (G:Good p m t) {row:List Nat}:∀x∈mkS p m t r row,x<p^m:=fun x hx=>by
  obtain ⟨i,_,rfl⟩:=List.mem_map.mp hx
  exact zcy G.hp G.hm _ _
theorem yf5 {p m t root:Nat} (G:Good p m t):∀(marks row:List Nat),(∀x∈row,x<p^m)→∀x∈marks.foldl (fun row k=>mkS p m t (pw p m t root k) row) row,x<p^m
  | [],row,h=>h
  | k::marks,row,h=>by rw [List.foldl_cons];exact yf5 G marks _ (ygO G)
theorem ydJ {p m t root:Nat} (G:Good p m t) (marks:List Nat):∀x∈mkL p m t root marks,x<p^m:=yf5 G marks [1] fun x hx=>by rw [List.mem_singleton.mp hx];exact zaC G.hp G.hm
theorem yfS {p m t root:Nat} {marks:List Nat} {i k:Nat} (h:marks[i]?=some k):mkL p m t root (marks.take (i+1))=mkS p m t (pw p m t root k) (mkL p m t root (marks.take i)):=by
  unfold mkL;rw [ybR h,List.foldl_append];rfl
end
end My
end
section
-- text: PM
namespace My
open PySem L2 Dg
local macro_rules | `(tactic| walk_at "rd") => `(tactic| repeat (first | refine ⟨_, rfl, ?_⟩ | refine ⟨_, _, rfl, rfl, ?_⟩))
section
variable {P:Program} {w:World} {K:PySem.W.Frag} {mg:Str→Option Value} {base:Heap} {f:Addr} {fd:FuncData}
def zcV (K:PySem.W.Frag):Sp:=fun vs H Q _=>∃(a:Addr) (p m t x:Nat) (z:Int),vs=[.ref a,Vn x,.int z]∧Fld K H a p m t∧Good p m t∧x<p^m∧(x=0→0≤z)∧Q (Vn (pwz p m t x z)) H
theorem zfW:yaj ["field","one","many"] ["field","one","many"] (zad ybZ):=⟨rfl,rfl,rfl,by decide +kernel,rfl,by decide +kernel,by decide +kernel⟩
theorem yf1 (B:Bl mg) (h_times_itself:Has P w K mg base 4 "times_itself" ["field","one","many"] (zcl K)) (h_many_things:Has P w K mg base 2 "many_things" ["field"] (yc8 K)) (F:Fun K "power" "power" ybZ f fd):FnOk P w K mg base CX0 5 f fd ["field","one","many"] (zcV K):=by
  refine F.ok zfW (fun vs H Q E h=>?_) (fun cdv A outer s H vs Q E hr h=>?_)
  · obtain ⟨a,p,m,t,x,z,rfl,_⟩:=h;rfl
  obtain ⟨a,p,m,t,x,z,rfl,hF,G,hx,hz,q⟩:=h
  have hp:=G.hp
  have hm:=G.hm
  have hQ:=zaC hp hm
  unfold pwz at q
  refine ⟨_,(yaa (@zbe _ _ _ _ _ _ _ _ (@zaj _ _ _ _ _ _ _ _ ybw (pv 2) yac (zam _)) (zae (@yal _ _ _ _ yac)) zaw) (yaa (@zbe _ _ _ _ _ _ _ _ (@zaj _ _ _ _ _ _ _ _ ybw (pv 1) yac (zam _)) (yaa (@zbe _ _ _ _ _ _ _ _ (@zaj _ _ _ _ _ _ _ _ zgA (pv 2) yac (zam _)) (zae yc4) zaw) (zae (@yal _ _ _ _ yac))) zaw) (zae (@yal _ _ _ _ (yad h_times_itself hr (by decide) rfl (zaa (pv 0) (zaa (pv 1) (zaa (yag yaB (pv 2) (yag yaU (yad h_many_things hr (by decide) rfl (zaa (pv 0) yab ⋯) (by decide) ⋯ ⋯) yac)) yab ⋯) ⋯) ⋯) (by decide) ⋯ ⋯))))),?_⟩
  refine ⟨_,rfl,rfl,_,rfl,?_⟩
  by_cases cz:z=0
  · subst cz
    refine ite2 (fun _=>?_) (fun h=>absurd (decide_eq_true rfl) h)
    have e:(if x=0 then (if (0:Int)=0 then 1 else 0) else pw p m t x ((0:Int)%(((p^m:Nat):Int)-1)).toNat)=1:=by
      by_cases c:x=0
      · rw [if_pos c,if_pos rfl]
      · rw [if_neg c,Int.zero_emod];rfl
    rw [e] at q
    exact q
  · refine ite2 (fun h=>absurd (V.int.inj (of_decide_eq_true h)) cz) (fun _=>?_)
    dsimp only [ze4]
    refine ⟨_,rfl,rfl,_,rfl,?_⟩
    rw [ybD]
    refine ite2 (fun c=>?_) (fun c=>?_)
    · have x0:x=0:=of_decide_eq_true c
      rw [if_pos x0,if_neg cz] at q
      refine ⟨_,rfl,_,_,rfl,rfl,_,rfl,?_⟩
      refine ite2 (fun h=>absurd (of_decide_eq_true h) (by have:=hz x0;omega)) (fun _=>?_)
      exact q
    · have x0:¬ x=0:=fun h=>c (decide_eq_true h)
      rw [if_neg x0] at q
      dsimp only [ze4]
      refine ⟨_,rfl,_,rfl,_,rfl,_,rfl,a,p,m,t,rfl,hF,p_le hp hm G.hq,by have:=m_le hp G.hq;omega,?_⟩
      refine ⟨_,_,rfl,rfl,_,_,rfl,rfl,by show (0:Int)<((p^m:Nat):Int)-1;omega,?_⟩
      have hz0:=Int.emod_nonneg z (show ((p^m:Nat):Int)-1≠0 by omega)
      obtain ⟨k,ek⟩:=Int.eq_ofNat_of_zero_le hz0
      refine ⟨a,p,m,t,x,k,?_,hF,G,hx,?_⟩
      · show [V.ref a,Vn x,V.int (z%(((p^m:Nat):Int)-1))]=[V.ref a,Vn x,Vn k]
        rw [ek]
      · rw [ek] at q;exact q
end
end My
end
section
-- text: PT
namespace My
open PySem L2 Dg
section
variable {p m t:Nat}
section
variable (hp:2≤p) (hm:1≤m)
include hp hm
end
variable (G:Good p m t)
include G
end
end My
end
section
-- text: PU
namespace My
open PySem L2 Dg
section
variable {p m t:Nat} (G:Good p m t)
include G
end
end My
end
section
-- text: PV
namespace My
open PySem L2 Dg
theorem zd2:∀ {l l':List Nat},l.Nodup→(∀x∈l,x∈l')→l.length≤l'.length
  | [],_,_,_=>Nat.zero_le _
  | x::l,l',hd,h=>by
    have hd':=List.nodup_cons.mp hd
    have hx:=h x List.mem_cons_self
    have:=zd2 (l:=l) (l':=l'.erase x) hd'.2 fun y hy=>(List.mem_erase_of_ne (fun e=>hd'.1 (by rw [←e];exact hy))).mpr (h y (List.mem_cons_of_mem _ hy))
    rw [List.length_erase_of_mem hx] at this
    have:=List.length_pos_of_mem hx
    rw [List.length_cons];omega
theorem ycr (q k:Nat):q-1 ∣ q^k-1:=by
  induction k with
  | zero=>simp
  | succ k ih =>
    obtain ⟨c,hc⟩:=ih
    rcases Nat.eq_zero_or_pos q with h|h
    · subst h;simp
    · have hk:1≤q^k:=Nat.pow_pos h
      refine ⟨q^k+c,?_⟩
      have e:q^k=(q-1)*c+1:=by omega
      rw [Nat.pow_succ,Nat.mul_add,←hc,Nat.mul_comm (q-1),Nat.mul_sub,Nat.mul_one]
      have:=Nat.mul_le_mul_left (q^k) h
      omega
section
variable {p m t:Nat} (G:Good p m t)
include G
theorem ygi {few:Nat} (hf:m%few=0) (hf1:1≤few):(lets p m t few).length≤p^few:=by
  have hp:=G.hp
  have hm:=G.hm
  obtain ⟨b,Pb⟩:=G.prim
  have hq2:2≤p^few:=Nat.le_trans hp (Nat.le_self_pow (by omega) p)
  obtain ⟨kk,hkk⟩:p^few-1 ∣ p^m-1:=by
    have:=ycr (p^few) (m/few)
    rw [←Nat.pow_mul,Nat.mul_div_cancel' (Nat.dvd_of_mod_eq_zero hf)] at this
    exact this
  have h1:=zaC hp hm
  have hnd:(lets p m t few).Nodup:=List.Pairwise.filter _ (List.pairwise_lt_range.imp fun h=>by omega)
  have hs:=zd2 (l':=0::(List.range (p^few-1)).map fun j=>pw p m t b (kk*j)) hnd fun x hx=>by
    obtain ⟨hxr,hxe⟩:=List.mem_filter.mp hx
    have hxr:=List.mem_range.mp hxr
    have hxe:pw p m t x (p^few)=x:=of_decide_eq_true hxe
    rcases Nat.eq_zero_or_pos x with h0|h0
    · rw [h0];exact List.mem_cons_self
    · refine List.mem_cons_of_mem _ ?_
      obtain ⟨i,hi,rfl⟩:=Pb.all x h0 hxr
      rw [←ybM hp hm] at hxe
      have e1:(i*p^few)%(p^m-1)=i:=by
        refine G.inj Pb _ _ (Nat.mod_lt _ (by omega)) hi ?_
        rw [G.pw_mod Pb.pos Pb.lt];exact hxe
      have d1:p^m-1 ∣ i*(p^few-1):=by
        have e2:=Nat.div_add_mod (i*p^few) (p^m-1)
        rw [e1] at e2
        refine ⟨i*p^few/(p^m-1),?_⟩
        rw [Nat.mul_sub,Nat.mul_one];omega
      rw [hkk,Nat.mul_comm i] at d1
      have d2:=Nat.dvd_of_mul_dvd_mul_left (by omega) d1
      obtain ⟨j,rfl⟩:=d2
      refine List.mem_map.mpr ⟨j,List.mem_range.mpr ?_,rfl⟩
      rw [hkk,Nat.mul_comm (p^few-1)] at hi
      exact Nat.lt_of_mul_lt_mul_left hi
  rw [List.length_cons,List.length_map,List.length_range] at hs
  omega
end
section
variable {p m t:Nat} (G:Good p m t)
include G
end
end My
end
section
-- text: PZ
namespace My
open PySem L2 Dg
def dvF (p m t:Nat) (ds rest:List Nat) (a:Nat):Nat:=mul p m t (rest.getD (a+ds.length-1) 0) (pw p m t (ds.getD (ds.length-1) 0) (p^m-2))
def dvJ (p m t:Nat) (ds rest:List Nat) (a c j:Nat):List Nat:=(List.range rest.length).map fun i=>if a≤i∧i<a+j then sub p m (rest.getD i 0) (mul p m t c (ds.getD (i-a) 0)) else rest.getD i 0
def dvS (p m t:Nat) (ds rest:List Nat) (a:Nat):List Nat:=dvJ p m t ds rest a (dvF p m t ds rest a) ds.length
def dvI (p m t:Nat) (ds one:List Nat) (N:Nat):Nat→List Nat
  | 0=>one
  | i+1=>dvS p m t ds (dvI p m t ds one N i) (N-1-i)
def dvQ (p m t:Nat) (ds one:List Nat) (N i:Nat):List Nat:=(List.range N).map fun k=>if N≤k+i then dvF p m t ds (dvI p m t ds one N (N-1-k)) k else 0
theorem zc1 (p m t:Nat) (ds rest:List Nat) (a c j:Nat):(dvJ p m t ds rest a c j).length=rest.length:=by simp [dvJ]
theorem zco (p m t:Nat) (ds one:List Nat) (N:Nat):∀i,(dvI p m t ds one N i).length=one.length
  | 0=>rfl
  | i+1=>by unfold dvI dvS;rw [zc1,zco p m t ds one N i]
theorem yeN {p m t:Nat} {ds rest:List Nat} {a c j i:Nat} (hi:i<rest.length):(dvJ p m t ds rest a c j).getD i 0=if a≤i∧i<a+j then sub p m (rest.getD i 0) (mul p m t c (ds.getD (i-a) 0)) else rest.getD i 0:=by
  unfold dvJ
  rw [zdu,if_pos hi]
theorem zey (l:List Nat):((List.range l.length).map fun i=>l.getD i 0)=l:=by
  refine List.ext_getElem (by simp) fun i h1 h2=>?_
  simp [List.getD,h2]
theorem yfO (p m t:Nat) (ds rest:List Nat) (a c:Nat):dvJ p m t ds rest a c 0=rest:=by
  unfold dvJ
  conv=>rhs;rw [←zey rest]
  refine List.map_congr_left fun i _=>?_
  rw [if_neg (by omega)]
theorem zgv {p m t:Nat} {ds rest:List Nat} {a c j:Nat}:(dvJ p m t ds rest a c j).set (a+j) (sub p m (rest.getD (a+j) 0) (mul p m t c (ds.getD j 0)))=dvJ p m t ds rest a c (j+1):=by
  refine List.ext_getElem (by simp [dvJ]) fun i h1 h2=>?_
  rw [List.getElem_set]
  simp only [dvJ,List.getElem_map,List.getElem_range]
  by_cases e:a+j=i
  · subst e
    rw [if_pos rfl,if_pos (by omega),Nat.add_sub_cancel_left]
  · rw [if_neg e]
    by_cases c1:a≤i∧i<a+j
    · rw [if_pos c1,if_pos (by omega)]
    · rw [if_neg c1,if_neg (by omega)]
theorem yfF (p m t:Nat) (ds one:List Nat) (N:Nat):dvQ p m t ds one N 0=List.replicate N 0:=by
  refine List.ext_getElem (by simp [dvQ]) fun i h1 h2=>?_
  simp only [dvQ,List.getElem_map,List.getElem_range,List.getElem_replicate]
  rw [if_neg (by simp [dvQ] at h1;omega)]
theorem zgx {p m t:Nat} {ds one:List Nat} {N i:Nat} (hi:i<N):(dvQ p m t ds one N i).set (N-1-i) (dvF p m t ds (dvI p m t ds one N i) (N-1-i))=dvQ p m t ds one N (i+1):=by
  refine List.ext_getElem (by simp [dvQ]) fun k h1 h2=>?_
  rw [List.getElem_set]
  simp only [dvQ,List.getElem_map,List.getElem_range]
  by_cases e:N-1-i=k
  · subst e
    rw [if_pos rfl,if_pos (by omega),show N-1-(N-1-i)=i by omega]
  · rw [if_neg e]
    by_cases c:N≤k+i
    · rw [if_pos c,if_pos (by omega)]
    · rw [if_neg c,if_neg (by omega)]
theorem zd7 (p m t:Nat) (ds one:List Nat) (N i:Nat):(dvQ p m t ds one N i).length=N:=by simp [dvQ]
theorem yeI {xs:List Nat} (h:trim xs=xs) (h0:0<xs.length):xs.getD (xs.length-1) 0≠0:=by
  intro c
  have e:xs=xs.take (xs.length-1)++[0]:=by
    have:=zbE (l:=xs) (e:=xs.length-1) (by omega)
    rw [show xs.length-1+1=xs.length by omega,List.take_length,c] at this
    exact this
  have e2:trim xs=trim (xs.take (xs.length-1)):=by conv=>lhs;rw [e,zbN]
  have:=ydQ (xs.take (xs.length-1))
  rw [←e2,h,List.length_take] at this
  omega
theorem ydN {l:List Nat} {n:Nat} (h:∀k,n≤k→l.getD k 0=0):(trim l).length≤n:=by
  rcases Nat.lt_or_ge n (trim l).length with c|c
  · have h1:=yeI (ydI l) (by omega)
    rw [ydr] at h1
    exact absurd (h _ (by omega)) h1
  · exact c
section
variable {p m t:Nat} (G:Good p m t)
include G
theorem zcB {xs:List Nat} (h:∀x∈xs,x<p^m) (i:Nat):xs.getD i 0<p^m:=by
  by_cases c:i<xs.length
  · exact zby h c
  · rw [zaM (by omega)];exact yaN G.hp G.hm
theorem zg8 (ds rest:List Nat) (a:Nat):dvF p m t ds rest a<p^m:=za5 G.hp G.hm _ _
theorem yg2 {ds rest:List Nat} {a c j:Nat} (h:∀x∈rest,x<p^m):∀x∈dvJ p m t ds rest a c j,x<p^m:=fun x hx=>by
  obtain ⟨i,_,rfl⟩:=List.mem_map.mp hx
  split
  · exact zcy G.hp G.hm _ _
  · exact zcB G h i
theorem zdq {ds one:List Nat} {N:Nat} (h:∀x∈one,x<p^m):∀i,∀x∈dvI p m t ds one N i,x<p^m
  | 0=>h
  | i+1=>yg2 G (zdq h i)
theorem zdI {x:Nat} (hx:x<p^m):sub p m x x=0:=by
  have:=zdY G.hp G.hm (y:=x) (yaN G.hp G.hm (p:=p) (m:=m))
  rw [zero_add G.hp G.hm hx] at this
  exact this
theorem zeq {ds one:List Nat} {N:Nat} (hN:N=one.length+1-ds.length) (hd:0<ds.length) (hl:0<ds.getD (ds.length-1) 0) (h:∀x∈one,x<p^m) (hds:∀x∈ds,x<p^m):∀i,i≤N→∀k,one.length≤k+i→(dvI p m t ds one N i).getD k 0=0
  | 0,_,k,hk=>zaM (by unfold dvI;omega)
  | i+1,hi,k,hk=>by
    have hp:=G.hp
    have hm:=G.hm
    show (dvJ p m t ds (dvI p m t ds one N i) (N-1-i) (dvF p m t ds (dvI p m t ds one N i) (N-1-i)) ds.length).getD k 0=0
    by_cases c:k<one.length
    · rw [yeN (by rw [zco];exact c)]
      by_cases c2:one.length≤k+i
      · rw [if_neg (by omega)]
        exact zeq hN hd hl h hds i (by omega) k c2
      · have ek:k=N-1-i+ds.length-1:=by omega
        rw [if_pos (by omega),show k-(N-1-i)=ds.length-1 by omega]
        unfold dvF
        rw [←ek,mul_assoc hp hm,G.inv hl (zcB G hds _),mul_one hp hm (zcB G (zdq G h i) k)]
        exact zdI G (zcB G (zdq G h i) k)
    · exact zaM (by rw [zc1,zco];omega)
theorem zfH {ds one:List Nat} (hd:0<ds.length) (hl:0<ds.getD (ds.length-1) 0) (h:∀x∈one,x<p^m) (hds:∀x∈ds,x<p^m):(trim (dvI p m t ds one (one.length+1-ds.length) (one.length+1-ds.length))).length≤ds.length-1:=by
  refine ydN fun k hk=>?_
  by_cases c:ds.length≤one.length
  · exact zeq G rfl hd hl h hds _ (Nat.le_refl _) k (by omega)
  · rw [show one.length+1-ds.length=0 by omega]
    exact zaM (by unfold dvI;omega)
theorem zgH {x y r:Nat} (hx:x<p^m) (hr:r<p^m):add p m x (mul p m t y (sub p m 0 r))=sub p m x (mul p m t r y):=by
  have hp:=G.hp
  have hm:=G.hm
  have e1:sub p m 0 r=mul p m t (p-1) r:=by rw [←yf8 (t:=t) hp hm (yaN hp hm) hr,zero_add hp hm (za5 hp hm _ _)]
  have e2:mul p m t y (mul p m t (p-1) r)=mul p m t (p-1) (mul p m t r y):=by
    rw [mul_comm hp hm y,mul_assoc hp hm]
  rw [e1,e2,yf8 hp hm hx (za5 hp hm _ _)]
theorem yfA {row:List Nat} {b:Nat} (hr:∀x∈row,x<p^m):∀n,conv p m t row [b,1] n=add p m ((0::row).getD n 0) (mul p m t (row.getD n 0) b)
  | 0=>rfl
  | n+1=>by
    have hp:=G.hp
    have hm:=G.hm
    have h0:sumF p m n (fun i=>mul p m t (row.getD i 0) (([b,1]:List Nat).getD (n+1-i) 0))=0:=by
      have:sumF p m n (fun i=>mul p m t (row.getD i 0) (([b,1]:List Nat).getD (n+1-i) 0))=sumF p m n fun _=>0:=by
        refine ybP hp hm _ fun i hi=>?_
        rw [zaM (show ([b,1]:List Nat).length≤n+1-i by simp;omega),mul_zero hp hm]
      rw [this]
      have:=zcb hp hm (fun _=>0) 0 n (fun _ _ _=>rfl)
      rw [Nat.zero_add] at this
      exact this
    show add p m (add p m (sumF p m n fun i=>mul p m t (row.getD i 0) (([b,1]:List Nat).getD (n+1-i) 0)) (mul p m t (row.getD n 0) (([b,1]:List Nat).getD (n+1-n) 0))) (mul p m t (row.getD (n+1) 0) (([b,1]:List Nat).getD (n+1-(n+1)) 0))=_
    rw [h0,show n+1-n=1 by omega,Nat.sub_self]
    show add p m (add p m 0 (mul p m t (row.getD n 0) 1)) (mul p m t (row.getD (n+1) 0) b)=add p m (row.getD n 0) _
    rw [mul_one hp hm (zcB G hr n),zero_add hp hm (zcB G hr n)]
omit G in
theorem ycf (row:List Nat) (i:Nat):(row++[0]).getD i 0=row.getD i 0:=by
  by_cases c:i<row.length
  · rw [List.getD_eq_getElem?_getD,List.getElem?_append_left c,←List.getD_eq_getElem?_getD]
  · rw [zaM (xs:=row) (by omega),List.getD_eq_getElem?_getD,List.getElem?_append_right (by omega)]
    cases i-row.length with
    | zero=>rfl
    | succ k=>rfl
theorem yfy {row:List Nat} {r:Nat} (hr:∀x∈row,x<p^m) (hrq:r<p^m) (h0:0<row.length) (hl:row.getD (row.length-1) 0=1):rmul p m t row [sub p m 0 r,1]=mkS p m t r row:=by
  have hp:=G.hp
  have hm:=G.hm
  have hz:∀n,(0::row).getD n 0<p^m:=fun n=>zcB G (fun x hx=>by
    rcases List.mem_cons.mp hx with rfl|h
    · exact yaN hp hm
    · exact hr x h) n
  have e:∀n,conv p m t row [sub p m 0 r,1] n=sub p m ((0::row).getD n 0) (mul p m t r ((row++[0]).getD n 0)):=fun n=>by
    rw [yfA G hr,zgH G (hz n) hrq,ycf]
  unfold rmul mkS
  rw [show (row.length+([sub p m 0 r,1]:List Nat).length)=row.length+1+1 from rfl,List.range_succ,List.map_append]
  have ez:conv p m t row [sub p m 0 r,1] (row.length+1)=0:=by
    rw [e,ycf,zaM (xs:=row) (i:=row.length+1) (by omega),zaM (xs:=0::row) (by simp),mul_zero hp hm]
    exact zdI G (yaN hp hm)
  rw [List.map_singleton,ez,zbN,List.range_succ,List.map_append,List.map_singleton,List.map_append,List.map_singleton]
  have el:conv p m t row [sub p m 0 r,1] row.length=1:=by
    rw [e,ycf,zaM (xs:=row) (i:=row.length) (Nat.le_refl _),mul_zero hp hm]
    obtain ⟨k,hk⟩:∃k,row.length=k+1:=⟨row.length-1,by omega⟩
    rw [hk]
    show sub p m (row.getD k 0) 0=1
    rw [hk] at hl
    rw [show k+1-1=k from rfl] at hl
    rw [hl]
    have:=zdY hp hm (x:=1) (y:=0) (zaC hp hm)
    rw [add_zero hp hm (zaC hp hm)] at this
    exact this
  rw [el,ycl (by decide),←e,el]
  refine congrArg (·++[1]) (List.map_congr_left fun n _=>e n)
theorem zfP {row:List Nat} {r:Nat} (h0:0<row.length) (hl:row.getD (row.length-1) 0=1):(mkS p m t r row).getD row.length 0=1:=by
  have hp:=G.hp
  have hm:=G.hm
  unfold mkS
  rw [zdu,if_pos (by omega),ycf,zaM (xs:=row) (i:=row.length) (Nat.le_refl _),mul_zero hp hm]
  obtain ⟨k,hk⟩:∃k,row.length=k+1:=⟨row.length-1,by omega⟩
  rw [hk]
  show sub p m (row.getD k 0) 0=1
  rw [hk] at hl
  rw [show k+1-1=k from rfl] at hl
  rw [hl]
  have:=zdY hp hm (x:=1) (y:=0) (zaC hp hm)
  rw [add_zero hp hm (zaC hp hm)] at this
  exact this
theorem yef (root:Nat):∀(marks row:List Nat),0<row.length→row.getD (row.length-1) 0=1→(marks.foldl (fun row k=>mkS p m t (pw p m t root k) row) row).getD (row.length+marks.length-1) 0=1
  | [],row,_,h=>h
  | k::marks,row,h0,h=>by
    have:=yef root marks (mkS p m t (pw p m t root k) row) (by rw [yc5];omega) (by rw [yc5];exact zfP G h0 h)
    rw [yc5] at this
    rw [List.foldl_cons,show row.length+(k::marks).length-1=row.length+1+marks.length-1 by rw [List.length_cons];omega]
    exact this
theorem ydf (root:Nat) (marks:List Nat):(mkL p m t root marks).getD marks.length 0=1:=by
  have:=yef G root marks [1] (by decide) rfl
  rw [show ([1]:List Nat).length+marks.length-1=marks.length by simp] at this
  exact this
end
def mdR (p m t root:Nat) (marks gs:List Nat):List Nat:=trim (List.replicate marks.length 0++gs)
def mdN (p m t root:Nat) (marks gs:List Nat):Nat:=(mdR p m t root marks gs).length+1-(mkL p m t root marks).length
def mdL (p m t root:Nat) (marks gs:List Nat):List Nat:=((wid (trim (dvI p m t (mkL p m t root marks) (mdR p m t root marks gs) (mdN p m t root marks gs) (mdN p m t root marks gs))) marks.length).map (sub p m 0))++gs
theorem yfm {p m t root:Nat} {marks gs:List Nat} (G:Good p m t) (h:∀x∈gs,x<p^m):∀x∈mdR p m t root marks gs,x<p^m:=fun x hx=>by
  rcases List.mem_append.mp (yc7 _ _ hx) with c|c
  · rw [List.eq_of_mem_replicate c];exact yaN G.hp G.hm
  · exact h x c
theorem zej {p m t root:Nat} {marks gs:List Nat} (G:Good p m t) (h:∀x∈gs,x<p^m):(trim (dvI p m t (mkL p m t root marks) (mdR p m t root marks gs) (mdN p m t root marks gs) (mdN p m t root marks gs))).length≤marks.length:=by
  have:=zfH G (ds:=mkL p m t root marks) (one:=mdR p m t root marks gs) (by rw [yb0];omega) (by rw [yb0,Nat.add_sub_cancel,ydf G];exact Nat.one_pos) (yfm G h) (ydJ G marks)
  rw [yb0,Nat.add_sub_cancel] at this
  unfold mdN
  rw [yb0]
  exact this
theorem ydW {p m t root:Nat} {marks gs:List Nat} (G:Good p m t) (h:∀x∈gs,x<p^m):(mdL p m t root marks gs).length=marks.length+gs.length:=by
  unfold mdL
  rw [List.length_append,List.length_map,yeW (zej G h)]
theorem zgc {p m t root:Nat} {marks gs:List Nat} (G:Good p m t) (h:∀x∈gs,x<p^m):∀x∈mdL p m t root marks gs,x<p^m:=fun x hx=>by
  rcases List.mem_append.mp hx with c|c
  · obtain ⟨y,_,rfl⟩:=List.mem_map.mp c
    exact zcy G.hp G.hm _ _
  · exact h x c
theorem zf3 {xs:List V} {v:V} (h:xs[xs.length-1]?=some v):atI xs (-1)=some v:=by
  have hl:0<xs.length:=by
    have:=(List.getElem?_eq_some_iff.mp h).1;omega
  unfold atI ixN
  rw [if_neg (by decide),if_pos (by omega)]
  show (some _).bind _=_
  rw [Option.bind_some,←h]
  congr 1
  omega
section
variable {P:Program} {w:World} {K:PySem.W.Frag} {mg:Str→Option Value} {base:Heap} {f:Addr} {fd:FuncData}
def ycW (K:PySem.W.Frag):Sp:=fun vs H Q E=>zdd K vs H Q E∨∃(a:Addr) (ns:List Nat),vs=[.ref a]∧SqT K H a (ns.map Vn)∧ns.length≤1000∧∀r H',Same H H'→SqT K H' r ((trim ns).map Vn)→Q (.ref r) H'
theorem zg4 {k:Nat} {x:Str} {ps:List Str} (h:Has P w K mg base k x ps (ycW K)):Has P w K mg base k x ps (zdd K):=by
  obtain ⟨f,fd,F,B,kp,m⟩:=h
  exact ⟨f,fd,F.imp fun vs H Q E h=>.inl h,B,kp,m⟩
theorem zfy (B:Bl mg) (F:Fun K "trimmed" "trimmed" zbn f fd):FnOk P w K mg base CX0 1 f fd ["things"] (ycW K):=by
  refine F.ok ybW (fun vs H Q E h=>?_) (fun cdv A outer s H vs Q E hr h=>?_)
  · rcases h with ⟨a,ns,rfl,_⟩ | ⟨a,ns,rfl,_⟩ <;> rfl
  obtain ⟨a,ns,rfl,hs,hl,q⟩:∃(a:Addr) (ns:List Nat),vs=[.ref a]∧(SqL K H a (ns.map Vn)∨SqT K H a (ns.map Vn))∧ns.length≤1000∧((SqL K H a (ns.map Vn)∧∀r H',Same H H'→H r=none→H' r=some (.tup ((trim ns).map Vn))→Q (.ref r) H')∨(SqT K H a (ns.map Vn)∧∀r H',Same H H'→SqT K H' r ((trim ns).map Vn)→Q (.ref r) H')):=by
    rcases h with ⟨a,ns,e,ha,hl,q⟩ | ⟨a,ns,e,ha,hl,q⟩
    · exact ⟨a,ns,e,.inl ha,hl,.inl ⟨ha,q⟩⟩
    · exact ⟨a,ns,e,.inr ha,hl,.inr ⟨ha,q⟩⟩
  refine ⟨_,(@yaa _ _ _ _ _ (@yaf _ _ 1 _ _ _ _ ybW.nd rfl (Or.inl rfl) (@zan _ _ _ _ _ _ _ _ _ yak rfl (B "len" (by decide)) PySem.boot_len (@zaa _ _ _ _ _ (pv 0) yab ⋯) (by decide) (by decide) ⋯ ⋯) ⋯ (by trivial)) (@yaa _ _ _ _ _ (@yaM _ _ _ _ _ _ PassesOwn.never (@PW.pt _ _ _ (@zf6 _ _ _ _ _ _ _ (@zaj _ _ _ _ _ _ _ _ zbJ (pv 1) yac (zam _)) (@ye9 _ _ _ _ (@zaj _ _ _ _ _ _ _ _ ybw (@zao _ _ _ _ _ _ _ ygg (pv 0) (@yag _ _ _ _ _ _ _ _ yaU (pv 1) yac) (fun _ _=>rfl)) yac (zam _))))) (@zae _ _ _ (@ybt _ _ 1 _ _ _ _ _ _ ybW.nd rfl (Or.inl rfl) yac zgm (by trivial)))) (@zae _ _ _ (@yal _ _ _ _ (@zat _ _ _ _ _ _ _ _ _ yav rfl (B "tuple" (by decide)) zav (@zaa _ _ _ _ _ (@zcf _ _ _ _ _ _ _ _ _ _ ygn (pv 0) zde (@ydb _ _ _ (pv 1))) yab ⋯) (by decide) (by decide) ⋯ ⋯))))),?_⟩
  refine ⟨_,rfl,a,_,rfl,hs,?_⟩
  refine zaN (fun σ H'=>H'=H∧∃e:Nat,e≤ns.length∧trim ns=trim (ns.take e)∧σ=[some (.ref a),some (Vn e)]) (fun σ _=>mI σ 1) ⟨rfl,ns.length,Nat.le_refl _,by rw [List.take_length],by rw [List.length_map];rfl⟩ ?_
  rintro σ H' ⟨rfl,e,he,ht,rfl⟩
  refine ygE (b1:=decide ((0:Int)<(e:Int))) (b2:=decide (ns.getD (e-1) 0=0)) (fun Q q=>⟨_,rfl,_,_,rfl,rfl,_,rfl,q⟩) (fun c Q q=>?_) ?_
  · have c':0<e:=by have:=of_decide_eq_true c;omega
    have eat:atI (ns.map Vn) ((e:Int)-1)=some (Vn (ns.getD (e-1) 0)):=by
      rw [show (e:Int)-1=((e-1:Nat):Int) by omega]
      exact ybc (zaB (by omega))
    rcases hs with ha|ha
    · exact ⟨_,rfl,_,rfl,_,_,rfl,rfl,.inl ⟨a,_,_,Vn (ns.getD (e-1) 0),rfl,rfl,ha,eat,rfl,_,rfl,by rw [ybD];exact q⟩⟩
    · exact ⟨_,rfl,_,rfl,_,_,rfl,rfl,.inr ⟨a,_,_,Vn (ns.getD (e-1) 0),rfl,rfl,ha,eat,rfl,_,rfl,by rw [ybD];exact q⟩⟩
  refine ite2 (fun c=>?_) (fun c=>?_)
  · simp only [Bool.and_eq_true,decide_eq_true_eq] at c
    have hsplit:ns.take e=ns.take (e-1)++[0]:=by
      have:=zbE (l:=ns) (e:=e-1) (by omega)
      rw [show e-1+1=e by omega,c.2] at this
      exact this
    refine ⟨fun σ' H''=>H''=H'∧σ'=[some (.ref a),some (Vn (e-1))],?_,?_⟩
    · rintro σ' H'' ⟨rfl,rfl⟩
      refine ⟨_,?_,rfl,rfl,e-1,by omega,by rw [ht,hsplit,zbN],rfl⟩
      show e-1<e;omega
    · refine ⟨_,rfl,_,_,rfl,rfl,rfl,?_⟩
      show [some (V.ref a),some (V.int ((e:Int)-1))]=_
      rw [show (e:Int)-1=((e-1:Nat):Int) by omega]
  · have hfin:trim ns=ns.take e:=by
      rw [ht]
      rcases Nat.eq_zero_or_pos e with h0|h0
      · rw [h0];rfl
      · have hz:ns.getD (e-1) 0≠0:=by
          intro h
          exact c (by simp only [Bool.and_eq_true,decide_eq_true_eq];exact ⟨by omega,h⟩)
        have:=zbE (l:=ns) (e:=e-1) (by omega)
        rw [show e-1+1=e by omega] at this
        rw [this,ycl hz]
    have ecut:cutV (ns.map Vn) none (some (e:Int))=(trim ns).map Vn:=by rw [zfX _ _ (by rw [List.length_map];exact he),←List.map_take,←hfin]
    rcases q with ⟨ha,q⟩ | ⟨ha,q⟩
    · refine ⟨_,rfl,_,rfl,_,rfl,.inl ⟨a,_,rfl,ha,fun l hl=>?_⟩⟩
      rw [ecut]
      refine ⟨l,_,rfl,.inl ⟨SqL.of zab,fun r hr=>?_⟩⟩
      exact q r _ ((zac hl _).trans (zac hr _)) ((zac hl _).free hr) zab
    · refine ⟨_,rfl,_,rfl,_,rfl,.inr ⟨a,_,rfl,ha,fun e=>?_,fun l hl=>?_⟩⟩
      · rw [ecut] at e
        exact ⟨a,_,rfl,.inr ⟨ha,q a _ (Same.refl _) (by rw [e];exact ha)⟩⟩
      · rw [ecut]
        exact ⟨l,_,rfl,.inr ⟨SqT.of zab,q l _ (zac hl _) (SqT.of zab)⟩⟩
def zga (K:PySem.W.Frag):Sp:=fun vs H Q _=>∃(fa ps:Addr) (p m t root:Nat) (ms:List Nat),vs=[.ref fa,Vn root,.ref ps]∧Fld K H fa p m t∧Good p m t∧0<root∧root<p^m∧(SqL K H ps (ms.map Vn)∨SqT K H ps (ms.map Vn))∧ms.length≤64∧∀r H',Same H H'→SqT K H' r ((mkL p m t root ms).map Vn)→Q (.ref r) H'
theorem yaT:yaj ["field","root","powers","row","i"] ["field","root","powers"] (zad zaA):=⟨rfl,rfl,rfl,by decide +kernel,rfl,by decide +kernel,by decide +kernel⟩
theorem yha (B:Bl mg) (h_row_times:Has P w K mg base 4 "row_times" ["field","one","other"] (ydp K)) (h_minus:Has P w K mg base 2 "minus" ["field","one","other"] (yce K)) (h_power:Has P w K mg base 5 "power" ["field","one","many"] (zcV K)) (F:Fun K "row_of_roots" "row_of_roots" zaA f fd):FnOk P w K mg base CX0 6 f fd ["field","root","powers"] (zga K):=by
  refine F.ok yaT (fun vs H Q E h=>?_) (fun cdv A outer s H vs Q E hr h=>?_)
  · obtain ⟨fa,ps,p,m,t,root,ms,rfl,_⟩:=h;rfl
  obtain ⟨fa,ps,p,m,t,root,ms,rfl,hF,G,h0,hq,hs,hl,q⟩:=h
  have hp:=G.hp
  have hm:=G.hm
  refine ⟨_,(@yaa _ _ _ _ _ (@yaf _ _ 3 _ _ _ _ yaT.nd rfl (Or.inl rfl) (@yaQ _ _ _ _ _ (@zaa _ _ _ _ _ yac yab ⋯)) ⋯ (by trivial)) (@yaa _ _ _ _ _ (@zaU _ _ _ _ _ _ _ _ PassesOwn.never rfl (@ygA _ _ _ _ (pv 2)) (@zaf _ _ 4 _ yaT.nd rfl (Or.inl rfl) (by trivial)) (@zae _ _ _ (@yaf _ _ 3 _ _ _ _ yaT.nd rfl (Or.inl rfl) (@yad _ _ _ _ _ _ _ _ _ _ _ h_row_times hr (by decide) rfl (@zaa _ _ _ _ _ (pv 0) (@zaa _ _ _ _ _ (pv 3) (@zaa _ _ _ _ _ (@yaQ _ _ _ _ _ (@zaa _ _ _ _ _ (@yad _ _ _ _ _ _ _ _ _ _ _ h_minus hr (by decide) rfl (@zaa _ _ _ _ _ (pv 0) (@zaa _ _ _ _ _ yac (@zaa _ _ _ _ _ (@yad _ _ _ _ _ _ _ _ _ _ _ h_power hr (by decide) rfl (@zaa _ _ _ _ _ (pv 0) (@zaa _ _ _ _ _ (pv 1) (@zaa _ _ _ _ _ (pv 4) yab ⋯) ⋯) ⋯) (by decide) ⋯ ⋯) yab ⋯) ⋯) ⋯) (by decide) ⋯ ⋯) (@zaa _ _ _ _ _ yac yab ⋯) ⋯)) yab ⋯) ⋯) ⋯) (by decide) ⋯ ⋯) ⋯ (by trivial))) (by intro _;rfl)) (@zae _ _ _ (@yal _ _ _ _ (pv 3))))),?_⟩
  refine ⟨szl 1,fun r0 hr0=>?_⟩
  have s0:=zac hr0 (.tup [V.int 1])
  have hml:∀i,i<ms.length→(mkL p m t root (ms.take i)).length=i+1:=fun i hi=>by rw [yb0,List.length_take];omega
  have htwo:∀i,∀y∈[sub p m 0 (pw p m t root (ms.getD i 0)),1],y<p^m:=fun i y hy=>by
    rcases List.mem_cons.mp hy with rfl|h
    · exact zcy hp hm _ _
    · rw [List.mem_singleton.mp h];exact zaC hp hm
  have hnext:∀i,i<ms.length→rmul p m t (mkL p m t root (ms.take i)) [sub p m 0 (pw p m t root (ms.getD i 0)),1]=mkL p m t root (ms.take (i+1)):=fun i hi=>by
    have hmi:ms[i]?=some (ms.getD i 0):=by rw [List.getElem?_eq_getElem hi];simp [List.getD,hi]
    rw [yfS hmi]
    refine yfy G (ydJ G _) (ybv hp hm _ _) (by have:=hml i hi;omega) ?_
    have:=ydf G root (ms.take i)
    rw [List.length_take,show min i ms.length=i by omega] at this
    rw [hml i hi,Nat.add_sub_cancel];exact this
  dsimp only [zau]
  rcases hs with hs|hs
  · refine .inl ⟨_,rfl,ps,rfl,⟨_,Same.seq s0 hs⟩,?_⟩
    refine za4 (za1 (xs:=ms.map Vn)) (fun i σ H'=>Same H H'∧∃(rr:Addr) (s4:Option V),SqT K H' rr ((mkL p m t root (ms.take i)).map Vn)∧σ=[some (.ref fa),some (Vn root),some (.ref ps),some (.ref rr),s4]) ⟨s0,r0,none,SqT.of zab,rfl⟩ (fun i σ H' _ h=>Same.seq h.1 hs) ?_ ?_
    · rintro i z σ H2 H2' hi ⟨s2,rr,s4,hrr,rfl⟩ ⟨rfl,ez⟩
      rw [List.length_map] at hi
      rw [zaB hi] at ez
      cases ez
      refine ⟨_,rfl,_,rfl,_,rfl,_,rfl,_,rfl,_,rfl,fa,p,m,t,root,((ms.getD i 0:Nat):Int),rfl,Same.tup s2 hF,G,hq,fun h=>by omega,?_⟩
      rw [zdU G hq]
      refine ⟨fa,p,m,t,0,_,rfl,Same.tup s2 hF,hp,p_le hp hm G.hq,fun r h2=>?_⟩
      cases yeq hp hm (yaN hp hm) (ybv hp hm _ _) h2
      refine ⟨szl 2,fun tt htt=>?_⟩
      have st:=zac htt (.tup [Vn (sub p m 0 (pw p m t root (ms.getD i 0))),.int 1])
      refine ⟨fa,rr,tt,p,m,t,mkL p m t root (ms.take i),[sub p m 0 (pw p m t root (ms.getD i 0)),1],rfl,Same.tup (s2.trans st) hF,G,Same.tup st hrr,SqT.of zab,by have:=hml i hi;omega,by show 2≤200;decide,ydJ G _,htwo i,fun r H3 s3 nr er=>?_⟩
      rw [hnext i hi] at er
      exact ⟨(s2.trans st).trans s3,r,_,SqT.of er,rfl⟩
    · rw [List.length_map]
      rintro σ H2 ⟨s2,rr,s4,hrr,rfl⟩
      rw [List.take_length] at hrr
      exact ⟨_,rfl,q rr H2 s2 hrr⟩
  · refine .inr ⟨_,rfl,ps,rfl,⟨_,Same.tup s0 hs⟩,?_⟩
    refine za4 (yc6 (xs:=ms.map Vn)) (fun i σ H'=>Same H H'∧∃(rr:Addr) (s4:Option V),SqT K H' rr ((mkL p m t root (ms.take i)).map Vn)∧σ=[some (.ref fa),some (Vn root),some (.ref ps),some (.ref rr),s4]) ⟨s0,r0,none,SqT.of zab,rfl⟩ (fun i σ H' _ h=>Same.tup h.1 hs) ?_ ?_
    · rintro i z σ H2 H2' hi ⟨s2,rr,s4,hrr,rfl⟩ ⟨rfl,ez⟩
      rw [List.length_map] at hi
      rw [zaB hi] at ez
      cases ez
      refine ⟨_,rfl,_,rfl,_,rfl,_,rfl,_,rfl,_,rfl,fa,p,m,t,root,((ms.getD i 0:Nat):Int),rfl,Same.tup s2 hF,G,hq,fun h=>by omega,?_⟩
      rw [zdU G hq]
      refine ⟨fa,p,m,t,0,_,rfl,Same.tup s2 hF,hp,p_le hp hm G.hq,fun r h2=>?_⟩
      cases yeq hp hm (yaN hp hm) (ybv hp hm _ _) h2
      refine ⟨szl 2,fun tt htt=>?_⟩
      have st:=zac htt (.tup [Vn (sub p m 0 (pw p m t root (ms.getD i 0))),.int 1])
      refine ⟨fa,rr,tt,p,m,t,mkL p m t root (ms.take i),[sub p m 0 (pw p m t root (ms.getD i 0)),1],rfl,Same.tup (s2.trans st) hF,G,Same.tup st hrr,SqT.of zab,by have:=hml i hi;omega,by show 2≤200;decide,ydJ G _,htwo i,fun r H3 s3 nr er=>?_⟩
      rw [hnext i hi] at er
      exact ⟨(s2.trans st).trans s3,r,_,SqT.of er,rfl⟩
    · rw [List.length_map]
      rintro σ H2 ⟨s2,rr,s4,hrr,rfl⟩
      rw [List.take_length] at hrr
      exact ⟨_,rfl,q rr H2 s2 hrr⟩
def yei (K:PySem.W.Frag):Sp:=fun vs H Q _=>∃(wh fa mk:Addr) (p m t few root:Nat) (marks:List Nat),vs=[.ref wh]∧WhAt H wh fa mk few root marks∧Fld K H fa p m t∧Good p m t∧0<root∧root<p^m∧marks.length≤64∧∀r H',Same H H'→SqT K H' r ((mkL p m t root marks).map Vn)→Q (.ref r) H'
theorem zbP:yaj ["wheel","field","few","root","marks"] ["wheel"] (zad yb3):=⟨rfl,rfl,rfl,by decide +kernel,rfl,by decide +kernel,by decide +kernel⟩
theorem zf1 (B:Bl mg) (h_row_of_roots:Has P w K mg base 6 "row_of_roots" ["field","root","powers"] (zga K)) (F:Fun K "maker" "maker" yb3 f fd):FnOk P w K mg base CX0 7 f fd ["wheel"] (yei K):=by
  refine F.ok zbP (fun vs H Q E h=>?_) (fun cdv A outer s H vs Q E hr h=>?_)
  · obtain ⟨wh,fa,mk,p,m,t,few,root,marks,rfl,_⟩:=h;rfl
  obtain ⟨wh,fa,mk,p,m,t,few,root,marks,rfl,hW,hF,G,h0,hq,hl,q⟩:=h
  refine ⟨_,(@yaa _ _ _ _ _ (@zbd _ _ _ _ _ _ (pv 0) (@ybe _ _ _ _ _ _ rfl (@zah _ _ _ _ _ (@zaf _ _ 1 _ zbP.nd rfl (Or.inl rfl) (by trivial)) (@zah _ _ _ _ _ (@zaf _ _ 2 _ zbP.nd rfl (Or.inl rfl) (by trivial)) (@zah _ _ _ _ _ (@zaf _ _ 3 _ zbP.nd rfl (Or.inl rfl) (by trivial)) (@zah _ _ _ _ _ (@zaf _ _ 4 _ zbP.nd rfl (Or.inl rfl) (by trivial)) zaL ⋯) ⋯) ⋯) ⋯) ⋯ ⋯) ⋯ ⋯ ⋯) (@zae _ _ _ (@yal _ _ _ _ (@yad _ _ _ _ _ _ _ _ _ _ _ h_row_of_roots hr (by decide) rfl (@zaa _ _ _ _ _ (pv 1) (@zaa _ _ _ _ _ (pv 3) (@zaa _ _ _ _ _ (pv 4) yab ⋯) ⋯) ⋯) (by decide) ⋯ ⋯)))),?_⟩
  refine ⟨_,rfl,wh,_,rfl,SqT.of hW.w,rfl,_,_,rfl,_,_,rfl,_,_,rfl,_,_,rfl,rfl,?_⟩
  exact ⟨_,rfl,_,rfl,_,rfl,fa,mk,p,m,t,root,marks,rfl,hF,G,h0,hq,.inr (SqT.of hW.k),hl,q⟩
def zen (K:PySem.W.Frag):Sp:=fun vs H Q _=>∃(fa a b:Addr) (p m t:Nat) (one ds:List Nat),vs=[.ref fa,.ref a,.ref b]∧Fld K H fa p m t∧Good p m t∧SqT K H a (one.map Vn)∧SqT K H b (ds.map Vn)∧one.length≤200∧ds.length≤200∧0<ds.length∧0<ds.getD (ds.length-1) 0∧(∀x∈one,x<p^m)∧(∀x∈ds,x<p^m)∧
  ∀r q1 q2 H',Same H H'→H' r=some (.tup [.ref q1,.ref q2])→H' q1=some (.tup ((trim (dvQ p m t ds one (one.length+1-ds.length) (one.length+1-ds.length))).map Vn))→H' q2=some (.tup ((trim (dvI p m t ds one (one.length+1-ds.length) (one.length+1-ds.length))).map Vn))→Q (.ref r) H'
theorem zaO:yaj ["field","one","other","rest","quotient","at","factor","k","thing"] ["field","one","other"] (zad ya8):=⟨rfl,rfl,rfl,by decide +kernel,rfl,by decide +kernel,by decide +kernel⟩
theorem yfH (B:Bl mg) (h_over:Has P w K mg base 5 "over" ["field","one","other"] (zfx K)) (h_minus:Has P w K mg base 2 "minus" ["field","one","other"] (yce K)) (h_times:Has P w K mg base 3 "times" ["field","one","other"] (zbt K)) (h_trimmed:Has P w K mg base 1 "trimmed" ["things"] (zdd K)) (F:Fun K "row_over" "row_over" ya8 f fd):FnOk P w K mg base CX0 6 f fd ["field","one","other"] (zen K):=by
  refine F.ok zaO (fun vs H Q E h=>?_) (fun cdv A outer s H vs Q E hr h=>?_)
  · obtain ⟨fa,a,b,p,m,t,one,ds,rfl,_⟩:=h;rfl
  obtain ⟨fa,a,b,p,m,t,one,ds,rfl,hF,G,ha,hb,lo,ld,hd,hlast,ho,hds,q⟩:=h
  have hp:=G.hp
  have hm:=G.hm
  have hp2:=p_le hp hm G.hq
  refine ⟨_,(@yaa _ _ _ _ _ (@zbe _ _ _ _ _ _ _ _ (@zaj _ _ _ _ _ _ _ _ (zg1 hr.units0) (pv 2) (@yaQ _ _ _ _ _ yab) (zam _)) (@zae _ _ _ yc4) zaw) (@yaa _ _ _ _ _ (@yaf _ _ 3 _ _ _ _ zaO.nd rfl (Or.inl rfl) (@zat _ _ _ _ _ _ _ _ _ yb4 rfl (B "list" (by decide)) ybz (@zaa _ _ _ _ _ (pv 1) yab ⋯) (by decide) (by decide) ⋯ ⋯) ⋯ (by trivial)) (@yaa _ _ _ _ _ (@yaf _ _ 4 _ _ _ _ zaO.nd rfl (Or.inl rfl) (@yag _ _ _ _ _ _ _ _ zee (@zaK _ _ _ _ (@zaa _ _ _ _ _ yac yab ⋯)) (@zan _ _ _ _ _ _ _ _ _ (zfs rfl) rfl (B "max" (by decide)) zcs (@zaa _ _ _ _ _ yac (@zaa _ _ _ _ _ (@yag _ _ _ _ _ _ _ _ yas (@yag _ _ _ _ _ _ _ _ yaU (@zan _ _ _ _ _ _ _ _ _ yak rfl (B "len" (by decide)) PySem.boot_len (@zaa _ _ _ _ _ (pv 1) yab ⋯) (by decide) (by decide) ⋯ ⋯) (@zan _ _ _ _ _ _ _ _ _ yak rfl (B "len" (by decide)) PySem.boot_len (@zaa _ _ _ _ _ (pv 2) yab ⋯) (by decide) (by decide) ⋯ ⋯)) yac) yab ⋯) ⋯) (by decide) (by decide) ⋯ ⋯)) ⋯ (by trivial)) (@yaa _ _ _ _ _ (@zaU _ _ _ _ _ _ _ _ PassesOwn.never rfl (@ygG _ _ _ _ _ _ rfl (B "reversed" (by decide)) (@zaa _ _ _ _ _ (@ydA _ _ _ _ _ rfl (B "range" (by decide)) (@zaa _ _ _ _ _ (@zan _ _ _ _ _ _ _ _ _ yak rfl (B "len" (by decide)) PySem.boot_len (@zaa _ _ _ _ _ (pv 4) yab ⋯) (by decide) (by decide) ⋯ ⋯) yab ⋯) ⋯) yab ⋯) ⋯) (@zaf _ _ 5 _ zaO.nd rfl (Or.inl rfl) (by trivial)) (@yaa _ _ _ _ _ (@yaf _ _ 6 _ _ _ _ zaO.nd rfl (Or.inl rfl) (@yad _ _ _ _ _ _ _ _ _ _ _ h_over hr (by decide) rfl (@zaa _ _ _ _ _ (pv 0) (@zaa _ _ _ _ _ (@zao _ _ _ _ _ _ _ yan (pv 3) (@yag _ _ _ _ _ _ _ _ yaU (@yag _ _ _ _ _ _ _ _ yas (pv 5) (@zan _ _ _ _ _ _ _ _ _ yak rfl (B "len" (by decide)) PySem.boot_len (@zaa _ _ _ _ _ (pv 2) yab ⋯) (by decide) (by decide) ⋯ ⋯)) yac) (fun _ _=>rfl)) (@zaa _ _ _ _ _ (@zao _ _ _ _ _ _ _ yau (pv 2) (@yd3 _ _ _ _ _ _ ycA yac) (fun _ _=>rfl)) yab ⋯) ⋯) ⋯) (by decide) ⋯ ⋯) ⋯ (by trivial)) (@yaa _ _ _ _ _ (@zbd _ _ _ _ _ _ (pv 6) (@zck _ _ _ _ _ _ _ (pv 4) (pv 5) zbq (by intro _;rfl)) ⋯ ⋯ ⋯) (@zae _ _ _ (@zaU _ _ _ _ _ _ _ _ PassesOwn.never rfl (@ybJ _ _ _ _ _ _ _ _ rfl (B "enumerate" (by decide)) (@zaa _ _ _ _ _ (pv 2) yab ⋯) ⋯) (@ybe _ _ _ _ _ _ rfl (@zah _ _ _ _ _ (@zaf _ _ 7 _ zaO.nd rfl (Or.inl rfl) (by trivial)) (@zah _ _ _ _ _ (@zaf _ _ 8 _ zaO.nd rfl (Or.inl rfl) (by trivial)) zaL ⋯) ⋯) ⋯ ⋯) (@zae _ _ _ (@zbd _ _ _ _ _ _ (@yad _ _ _ _ _ _ _ _ _ _ _ h_minus hr (by decide) rfl (@zaa _ _ _ _ _ (pv 0) (@zaa _ _ _ _ _ (@zao _ _ _ _ _ _ _ yan (pv 3) (@yag _ _ _ _ _ _ _ _ yas (pv 5) (pv 7)) (fun _ _=>rfl)) (@zaa _ _ _ _ _ (@yad _ _ _ _ _ _ _ _ _ _ _ h_times hr (by decide) rfl (@zaa _ _ _ _ _ (pv 0) (@zaa _ _ _ _ _ (pv 6) (@zaa _ _ _ _ _ (pv 8) yab ⋯) ⋯) ⋯) (by decide) ⋯ ⋯) yab ⋯) ⋯) ⋯) (by decide) ⋯ ⋯) (@zck _ _ _ _ _ _ _ (pv 3) (@yag _ _ _ _ _ _ _ _ yas (pv 5) (pv 7)) zbq (by intro _;rfl)) ⋯ ⋯ ⋯)) (by intro _;rfl))))) (by intro _;rfl)) (@zae _ _ _ (@yal _ _ _ _ (@yaQ _ _ _ _ _ (@zaa _ _ _ _ _ (@yad _ _ _ _ _ _ _ _ _ _ _ h_trimmed hr (by decide) rfl (@zaa _ _ _ _ _ (pv 4) yab ⋯) (by decide) ⋯ ⋯) (@zaa _ _ _ _ _ (@yad _ _ _ _ _ _ _ _ _ _ _ h_trimmed hr (by decide) rfl (@zaa _ _ _ _ _ (pv 3) yab ⋯) (by decide) ⋯ ⋯) yab ⋯) ⋯)))))))),?_⟩
  refine ⟨_,rfl,szl 0,fun e0 he0=>?_⟩
  have t0:=zac he0 (.tup [])
  refine ⟨b,e0,ds.map (fun x:Nat=>(x:Int)),[],rfl,rfl,by rw [mapI];exact Same.tup t0 hb,SqT.of zab,_,rfl,?_⟩
  refine ite2 (fun c=>?_) (fun _=>?_)
  · have c':ds.map (fun x:Nat=>(x:Int))=[]:=by simpa using c
    have:=congrArg List.length c'
    rw [List.length_map] at this
    have h0:ds.length=0:=this
    omega
  dsimp only [ze4]
  refine ⟨_,rfl,a,_,rfl,.inr (Same.tup t0 ha),fun rs hrs=>?_⟩
  have t1:=t0.trans (zac hrs (.lst (one.map Vn)))
  have ers:upd (upd H e0 (.tup [])) rs (.lst (one.map Vn)) rs=some (.lst (one.map Vn)):=zab
  have nrs:=t0.free hrs
  dsimp only [zau]
  generalize upd (upd H e0 (.tup [])) rs (.lst (one.map Vn))=H1 at t1 ers ⊢
  refine ⟨szl 1,fun l0 hl0=>?_⟩
  have t2:=zac hl0 (.lst [V.int 0])
  refine ⟨_,rfl,a,_,rfl,.inr (Same.tup (t1.trans t2) ha),_,rfl,b,_,rfl,.inr (Same.tup (t1.trans t2) hb),_,_,rfl,rfl,_,_,rfl,rfl,_,_,rfl,?_⟩
  have eN:(if (((one.map Vn).length:Nat):Int)-(((ds.map Vn).length:Nat):Int)+1>0 then (((one.map Vn).length:Nat):Int)-(((ds.map Vn).length:Nat):Int)+1 else 0)=((one.length+1-ds.length:Nat):Int):=by
    rw [List.length_map,List.length_map]
    split <;> omega
  rw [eN]
  obtain ⟨N,hN⟩:∃N,one.length+1-ds.length=N:=⟨_,rfl⟩
  rw [hN] at q ⊢
  refine ⟨l0,(N:Int),_,rfl,rfl,zab,by omega,by omega,by rw [Int.toNat_natCast];exact szl _ (by simp;omega),fun qt hqt=>?_⟩
  rw [Int.toNat_natCast,ycd,←yfF p m t ds one N]
  have t3:=t2.trans (zac hqt (.lst ((dvQ p m t ds one N 0).map Vn)))
  have nqt:=(t1.trans t2).free hqt
  have eqt:upd (upd H1 l0 (.lst [V.int 0])) qt (.lst ((dvQ p m t ds one N 0).map Vn)) qt=some (.lst ((dvQ p m t ds one N 0).map Vn)):=zab
  have ers3:=t3 _ _ ers
  dsimp only [zau]
  generalize upd (upd H1 l0 (.lst [V.int 0])) qt (.lst ((dvQ p m t ds one N 0).map Vn))=H3 at t3 eqt ers3 ⊢
  have s3:=t1.trans t3
  have nqr:rs≠qt:=fun e=>by
    have h1:H1 qt=none:=t2.free hqt
    rw [←e,ers] at h1;cases h1
  refine ⟨_,rfl,qt,_,rfl,.inl (SqL.of eqt),_,rfl,fun rg hrg=>?_⟩
  refine ⟨rg,N,rfl,by rw [zab,List.length_map,zd7],by omega,?_⟩
  have s4:=s3.trans (zac hrg (.rng 0 (((dvQ p m t ds one N 0).map Vn).length:Int)))
  refine za4 ydo (fun i σ H'=>Same H H'∧H' rs=some (.lst ((dvI p m t ds one N i).map Vn))∧H' qt=some (.lst ((dvQ p m t ds one N i).map Vn))∧∃s5 s6 s7 s8,σ=[some (.ref fa),some (.ref a),some (.ref b),some (.ref rs),some (.ref qt),s5,s6,s7,s8]) ⟨s4,(zac hrg _) _ _ ers3,(zac hrg _) _ _ eqt,none,none,none,none,rfl⟩ (fun _ _ _ _ _=>trivial) ?_ ?_
  · rintro i z σ H5 H5' hi ⟨s5',er5,eq5,x5,x6,x7,x8,rfl⟩ ⟨rfl,rfl⟩
    have hlen:=zco p m t ds one N i
    have hlt:=zdq (ds:=ds) (N:=N) G ho i
    have hlN:ds.length≤one.length:=by omega
    have eat:(N:Int)-1-(i:Int)=((N-1-i:Nat):Int):=by omega
    obtain ⟨at',hat⟩:∃a',N-1-i=a':=⟨_,rfl⟩
    refine ⟨_,rfl,_,rfl,_,rfl,_,rfl,b,_,rfl,.inr (Same.tup s5' hb),_,_,rfl,rfl,_,_,rfl,rfl,rs,_,_,Vn ((dvI p m t ds one N i).getD (at'+ds.length-1) 0),rfl,rfl,SqL.of er5,?_,?_⟩
    · rw [List.length_map,eat,hat,show ((at':Nat):Int)+((ds.length:Nat):Int)-1=((at'+ds.length-1:Nat):Int) by omega]
      exact ybc (zaB (by rw [hlen];omega))
    refine ⟨_,rfl,_,rfl,b,_,_,Vn (ds.getD (ds.length-1) 0),rfl,rfl,Same.tup s5' hb,?_,?_⟩
    · exact zf3 (by rw [List.length_map];exact zaB (by omega))
    refine ⟨fa,p,m,t,_,_,rfl,Same.tup s5' hF,G,zcB G hlt _,hlast,zcB G hds _,?_⟩
    have eF:mul p m t ((dvI p m t ds one N i).getD (at'+ds.length-1) 0) (pw p m t (ds.getD (ds.length-1) 0) (p^m-2))=dvF p m t ds (dvI p m t ds one N i) at':=rfl
    rw [eF]
    dsimp only [zau]
    refine ⟨_,rfl,_,rfl,_,rfl,?_⟩
    refine ⟨qt,_,_,at',rfl,rfl,eq5,by rw [List.length_map,zd7,eat,hat];exact yfs (by omega),?_⟩
    rw [zdW]
    have eQ:(dvQ p m t ds one N i).set at' (dvF p m t ds (dvI p m t ds one N i) at')=dvQ p m t ds one N (i+1):=by rw [←hat];exact zgx hi
    rw [eQ]
    have s6:=zbV (l:=qt) (o:=.lst ((dvQ p m t ds one N (i+1)).map Vn)) s5' nqt
    have er6:upd H5' qt (.lst ((dvQ p m t ds one N (i+1)).map Vn)) rs=some (.lst ((dvI p m t ds one N i).map Vn)):=by rw [zag nqr];exact er5
    have eq6:upd H5' qt (.lst ((dvQ p m t ds one N (i+1)).map Vn)) qt=some (.lst ((dvQ p m t ds one N (i+1)).map Vn)):=zab
    generalize upd H5' qt (.lst ((dvQ p m t ds one N (i+1)).map Vn))=H6 at s6 er6 eq6 ⊢
    have eI:dvI p m t ds one N (i+1)=dvJ p m t ds (dvI p m t ds one N i) at' (dvF p m t ds (dvI p m t ds one N i) at') ds.length:=by rw [←hat];rfl
    have hclt:=zg8 G ds (dvI p m t ds one N i) at'
    rw [←yfO p m t ds (dvI p m t ds one N i) at' (dvF p m t ds (dvI p m t ds one N i) at')] at er6
    generalize dvF p m t ds (dvI p m t ds one N i) at'=cc at er6 eI hclt ⊢
    rw [eI]
    generalize dvI p m t ds one N i=R at hlen hlt er6 ⊢
    refine ⟨_,rfl,true,b,rfl,⟨_,Same.tup s6 hb⟩,?_⟩
    refine za4 (zbb (b:=true) (xs:=ds.map Vn)) (fun j σ H'=>Same H H'∧H' rs=some (.lst ((dvJ p m t ds R at' cc j).map Vn))∧H' qt=some (.lst ((dvQ p m t ds one N (i+1)).map Vn))∧∃s7 s8,σ=[some (.ref fa),some (.ref a),some (.ref b),some (.ref rs),some (.ref qt),some (.int ((N:Int)-1-(i:Int))),some (Vn cc),s7,s8]) ⟨s6,er6,eq6,_,_,rfl⟩ (fun _ _ _ _ h=>Same.tup h.1 hb) ?_ ?_
    · rintro j z σ H7 H8 hj ⟨s7,er7,eq7,y7,y8,rfl⟩ ⟨T,u,rfl,eu,hT,rfl⟩
      rw [List.length_map] at hj
      rw [zaB hj] at eu
      cases eu
      have sT:=s7.trans (zac hT (.tup [.int (j:Int),Vn (ds.getD j 0)]))
      have er8:=(zac hT (.tup [.int (j:Int),Vn (ds.getD j 0)])) _ _ er7
      have eq8:=(zac hT (.tup [.int (j:Int),Vn (ds.getD j 0)])) _ _ eq7
      refine ⟨T,_,rfl,SqT.of zab,rfl,_,_,rfl,_,_,rfl,rfl,?_⟩
      generalize upd H7 T (.tup [.int (j:Int),Vn (ds.getD j 0)])=H8 at sT er8 eq8 ⊢
      have hF8:Fld K H8 fa p m t:=Same.tup sT hF
      refine ⟨_,rfl,_,rfl,_,rfl,_,rfl,_,_,rfl,rfl,rs,_,_,Vn (R.getD (at'+j) 0),rfl,rfl,SqL.of er8,?_,?_⟩
      · rw [eat,hat,show ((at':Nat):Int)+((j:Nat):Int)=((at'+j:Nat):Int) by omega]
        refine ybc ?_
        rw [zaB (by rw [zc1,hlen];omega),yeN (by rw [hlen];omega),if_neg (by omega)]
      refine ⟨_,rfl,_,rfl,_,rfl,fa,p,m,t,cc,ds.getD j 0,rfl,hF8,hp,hm,G.hq,G.top,hclt,zcB G hds j,fun r br h1=>?_⟩
      cases zbO hp hm br h1
      refine ⟨fa,p,m,t,_,_,rfl,hF8,hp,hp2,fun r h2=>?_⟩
      cases yeq hp hm (zcB G hlt _) (za5 hp hm _ _) h2
      refine ⟨_,rfl,_,rfl,_,rfl,_,_,rfl,rfl,?_⟩
      refine ⟨rs,_,_,at'+j,rfl,rfl,er8,?_,?_⟩
      · rw [List.length_map,zc1,eat,hat,show ((at':Nat):Int)+((j:Nat):Int)=((at'+j:Nat):Int) by omega]
        exact yfs (by rw [hlen];omega)
      · rw [zdW,zgv]
        exact ⟨zbV sT nrs,zab,by rw [zag (fun e=>nqr e.symm)];exact eq8,_,_,rfl⟩
    · rw [List.length_map]
      rintro σ H7 ⟨s7,er7,eq7,y7,y8,rfl⟩
      exact ⟨s7,er7,eq7,_,_,_,_,rfl⟩
  · rintro σ H5 ⟨s5',er5,eq5,x5,x6,x7,x8,rfl⟩
    refine ⟨_,rfl,qt,dvQ p m t ds one N N,rfl,SqL.of eq5,by rw [zd7];omega,fun q1 H6 s6 nq1 eq1=>?_⟩
    refine ⟨_,rfl,rs,dvI p m t ds one N N,rfl,SqL.of (s6 _ _ er5),by rw [zco];omega,fun q2 H7 s7 nq2 eq2=>?_⟩
    refine ⟨szl 2,fun r hr'=>?_⟩
    have s8:=zac hr' (.tup [.ref q1,.ref q2])
    exact q r q1 q2 _ (s5'.trans (s6.trans (s7.trans s8))) zab (s8 _ _ (s7 _ _ eq1)) (s8 _ _ eq2)
def zfb (K:PySem.W.Frag):Sp:=fun vs H Q _=>∃(wh fa mk gv:Addr) (p m t few root:Nat) (marks gs:List Nat),vs=[.ref wh,.ref gv]∧WhAt H wh fa mk few root marks∧Fld K H fa p m t∧Good p m t∧0<root∧root<p^m∧marks.length≤64∧SqT K H gv (gs.map Vn)∧gs.length≤64∧(∀x∈gs,x<p^m)∧∀r H',Same H H'→SqT K H' r ((mdL p m t root marks gs).map Vn)→Q (.ref r) H'
theorem zbK:yaj ["wheel","given","field","few","root","marks","bound","rest"] ["wheel","given"] (zad yci):=⟨rfl,rfl,rfl,by decide +kernel,rfl,by decide +kernel,by decide +kernel⟩
theorem ygo (B:Bl mg) (h_row_over:Has P w K mg base 6 "row_over" ["field","one","other"] (zen K)) (h_trimmed:Has P w K mg base 1 "trimmed" ["things"] (ycW K)) (h_maker:Has P w K mg base 7 "maker" ["wheel"] (yei K)) (h_minus:Has P w K mg base 2 "minus" ["field","one","other"] (yce K)) (h_widened:Has P w K mg base 1 "widened" ["row","many"] (zgd K)) (F:Fun K "made" "made" yci f fd):FnOk P w K mg base CX0 8 f fd ["wheel","given"] (zfb K):=by
  refine F.ok zbK (fun vs H Q E h=>?_) (fun cdv A outer s H vs Q E hr h=>?_)
  · obtain ⟨wh,fa,mk,gv,p,m,t,few,root,marks,gs,rfl,_⟩:=h;rfl
  obtain ⟨wh,fa,mk,gv,p,m,t,few,root,marks,gs,rfl,hW,hF,G,h0,hq,hml,hgv,hgl,hgs,q⟩:=h
  have hp:=G.hp
  have hm:=G.hm
  have hp2:=p_le hp hm G.hq
  refine ⟨_,(@yaa _ _ _ _ _ (@zbd _ _ _ _ _ _ (pv 0) (@ybe _ _ _ _ _ _ rfl (@zah _ _ _ _ _ (@zaf _ _ 2 _ zbK.nd rfl (Or.inr rfl) (by trivial)) (@zah _ _ _ _ _ (@zaf _ _ 3 _ zbK.nd rfl (Or.inl rfl) (by trivial)) (@zah _ _ _ _ _ (@zaf _ _ 4 _ zbK.nd rfl (Or.inl rfl) (by trivial)) (@zah _ _ _ _ _ (@zaf _ _ 5 _ zbK.nd rfl (Or.inl rfl) (by trivial)) zaL ⋯) ⋯) ⋯) ⋯) ⋯ ⋯) ⋯ ⋯ ⋯) (@yaa _ _ _ _ _ (@yaf _ _ 6 _ _ _ _ zbK.nd rfl (Or.inl rfl) (@zan _ _ _ _ _ _ _ _ _ yak rfl (B "len" (by decide)) PySem.boot_len (@zaa _ _ _ _ _ (pv 5) yab ⋯) (by decide) (by decide) ⋯ ⋯) ⋯ (by trivial)) (@yaa _ _ _ _ _ (@yaf _ _ 7 _ _ _ _ zbK.nd rfl (Or.inl rfl) (@zao _ _ _ _ _ _ _ yau (@yad _ _ _ _ _ _ _ _ _ _ _ h_row_over hr (by decide) rfl (@zaa _ _ _ _ _ (pv 2) (@zaa _ _ _ _ _ (@yad _ _ _ _ _ _ _ _ _ _ _ h_trimmed hr (by decide) rfl (@zaa _ _ _ _ _ (@yag _ _ _ _ _ _ _ _ ycB (@yag _ _ _ _ _ _ _ _ yc3 (@yaQ _ _ _ _ _ (@zaa _ _ _ _ _ yac yab ⋯)) (pv 6)) (pv 1)) yab ⋯) (by decide) ⋯ ⋯) (@zaa _ _ _ _ _ (@yad _ _ _ _ _ _ _ _ _ _ _ h_maker hr (by decide) rfl (@zaa _ _ _ _ _ (pv 0) yab ⋯) (by decide) ⋯ ⋯) yab ⋯) ⋯) ⋯) (by decide) ⋯ ⋯) yac (fun _ _=>rfl)) ⋯ (by trivial)) (@zae _ _ _ (@yal _ _ _ _ (@yag _ _ _ _ _ _ _ _ ycB (@zat _ _ _ _ _ _ _ _ _ yav rfl (B "tuple" (by decide)) zav (@zaa _ _ _ _ _ (@zbg _ _ _ _ _ _ _ ["thing"] ["field"] [2] _ _ _ _ (id (α:=CSc ["wheel","given","field","few","root","marks","bound","rest"] (zad yci) ["thing"] ["field"] [2] _) ⟨by rfl,by decide +kernel,by decide +kernel,by decide +kernel,by decide +kernel,by rfl,by decide +kernel⟩) rfl (@zbk _ _ _ _ (@yad _ _ _ _ _ _ _ _ _ _ _ h_widened hr (by decide) rfl (@zaa _ _ _ _ _ (pv 7) (@zaa _ _ _ _ _ (pv 6) yab ⋯) ⋯) (by decide) ⋯ ⋯)) (fun cl C fp s H=>(@zaf _ _ 0 _ (by show List.Nodup (["thing","field"]:List Str);decide +kernel) rfl (Or.inl rfl) (by trivial))) (fun _ _ _ _ _=>za6) (fun _ _ _ _ _=>(@yad _ _ _ _ _ _ _ _ _ _ _ h_minus hr (by decide) rfl (@zaa _ _ _ _ _ (pv 1) (@zaa _ _ _ _ _ yac (@zaa _ _ _ _ _ (pv 0) yab ⋯) ⋯) ⋯) (by decide) ⋯ ⋯)) (by intro _;rfl)) yab ⋯) (by decide) (by decide) ⋯ ⋯) (pv 1))))))),?_⟩
  refine ⟨_,rfl,wh,_,rfl,SqT.of hW.w,rfl,_,_,rfl,_,_,rfl,_,_,rfl,_,_,rfl,rfl,?_⟩
  refine ⟨_,rfl,mk,_,rfl,.inr (SqT.of hW.k),?_⟩
  rw [List.length_map]
  dsimp only [zau]
  refine ⟨_,rfl,szl 1,fun z hz=>?_⟩
  have t1:=zac hz (.tup [.int 0])
  refine ⟨_,rfl,ydc (SqT.of zab) (by omega) fun z2 H2 t2 hz2=>?_⟩
  refine ⟨_,rfl,zcU hz2 (Same.tup (t1.trans t2) hgv) (by rw [List.length_map,List.length_map,List.length_replicate];omega) fun z3 H3 t3 hz3=>?_⟩
  rw [←List.map_append] at hz3
  refine .inr ⟨z3,_,rfl,hz3,by rw [List.length_append,List.length_replicate];omega,fun z4 H4 t4 hz4=>?_⟩
  have s4:=(t1.trans t2).trans (t3.trans t4)
  refine ⟨_,rfl,wh,fa,mk,p,m,t,few,root,marks,rfl,hW.same s4,Same.tup s4 hF,G,h0,hq,hml,fun mr H5 t5 hmr=>?_⟩
  have s5:=s4.trans t5
  have hRl:(mdR p m t root marks gs).length≤marks.length+gs.length:=by
    have:=ydQ (List.replicate marks.length 0++gs)
    rw [List.length_append,List.length_replicate] at this
    exact this
  have hkl:=yb0 p m t root marks
  refine ⟨fa,z4,mr,p,m,t,mdR p m t root marks gs,mkL p m t root marks,rfl,Same.tup s5 hF,G,Same.tup t5 hz4,hmr,by omega,by omega,by omega,by rw [hkl,Nat.add_sub_cancel,ydf G];exact Nat.one_pos,yfm G hgs,ydJ G marks,fun rr q1 q2 H6 t6 err eq1 eq2=>?_⟩
  have s6:=s5.trans t6
  refine ⟨rr,_,_,.ref q2,rfl,rfl,SqT.of err,rfl,?_⟩
  dsimp only [zau]
  have htr:=zej (root:=root) (marks:=marks) G hgs
  have eL:mdL p m t root marks gs=((wid (trim (dvI p m t (mkL p m t root marks) (mdR p m t root marks gs) (mdN p m t root marks gs) (mdN p m t root marks gs))) marks.length).map (sub p m 0))++gs:=rfl
  have hlt:∀x∈trim (dvI p m t (mkL p m t root marks) (mdR p m t root marks gs) (mdN p m t root marks gs) (mdN p m t root marks gs)),x<p^m:=fun x hx=>zdq G (yfm G hgs) _ x (yc7 _ _ hx)
  change H6 q2=some (.tup ((trim (dvI p m t (mkL p m t root marks) (mdR p m t root marks gs) (mdN p m t root marks gs) (mdN p m t root marks gs))).map Vn)) at eq2
  rw [eL] at q
  generalize trim (dvI p m t (mkL p m t root marks) (mdR p m t root marks gs) (mdN p m t root marks gs) (mdN p m t root marks gs))=R at htr hlt eq2 q
  refine ⟨_,rfl,_,rfl,q2,R,marks.length,rfl,SqT.of eq2,htr,by omega,fun wl H7 t7 nwl ewl=>?_⟩
  have s7:=s6.trans t7
  have hwl:=yeW htr
  have hwlt:=ygW (n:=marks.length) (yaN hp hm) hlt
  refine ⟨wl,rfl,⟨_,SqL.of ewl⟩,?_⟩
  refine zaI (za1 (xs:=(wid R marks.length).map Vn)) (fun k acc H'=>H'=H7∧acc=(((wid R marks.length).take k).map (sub p m 0)).map Vn) ⟨rfl,rfl⟩ (fun i acc H' _ h=>h.1 ▸ SqL.of ewl) ?_ ?_ ?_
  · rintro k acc H' hk ⟨_,rfl⟩
    rw [List.length_map,hwl] at hk
    rw [List.length_map,List.length_map,List.length_take];exact yap (by omega)
  · rintro k acc x H8 H8' hk ⟨rfl,rfl⟩ ⟨rfl,ez⟩
    rw [List.length_map] at hk
    rw [zaB hk] at ez
    cases ez
    refine ⟨_,rfl,_,rfl,fa,p,m,t,0,(wid R marks.length).getD k 0,rfl,Same.tup s7 hF,hp,hp2,fun r h=>?_⟩
    cases yeq hp hm (yaN hp hm) (zby hwlt hk) h
    refine ⟨rfl,?_⟩
    rw [zbE hk,List.map_append,List.map_append];rfl
  rw [List.length_map]
  rintro acc H8 ⟨rfl,rfl⟩ D hD
  rw [List.take_length]
  have t8:=zac hD (.lst (((wid R marks.length).map (sub p m 0)).map Vn))
  refine ⟨D,_,rfl,.inl ⟨SqL.of zab,fun tp htp=>?_⟩⟩
  have t9:=t8.trans (zac htp (.tup (((wid R marks.length).map (sub p m 0)).map Vn)))
  refine ⟨_,rfl,zcU (SqT.of zab) (Same.tup (s7.trans t9) hgv) (by rw [List.length_map,List.length_map,hwl,List.length_map];omega) fun r H9 t10 hr=>?_⟩
  rw [←List.map_append] at hr
  exact q r H9 ((s7.trans t9).trans t10) hr
end
end My
end
section
-- text: WD
namespace My
open PySem L2 Dg
def sums (p m:Nat) (xs ys:List Nat):List Nat:=(List.range (min xs.length ys.length)).map fun i=>add p m (xs.getD i 0) (ys.getD i 0)
section
variable {p m t:Nat} (G:Good p m t)
include G
theorem yeT {x:Nat} (hx:x<p^m):x∈lets p m t few↔pw p m t x (p^few)=x:=by
  unfold lets
  rw [List.mem_filter,List.mem_range,decide_eq_true_iff]
  exact ⟨fun h=>h.2,fun h=>⟨hx,h⟩⟩
theorem zfp {few:Nat} (hf:m%few=0) (hf1:1≤few):(lets p m t few).length=p^few:=by
  refine Nat.le_antisymm (ygi G hf hf1) ?_
  have hp:=G.hp
  have hm:=G.hm
  obtain ⟨b,Pb⟩:=G.prim
  have hq2:2≤p^few:=Nat.le_trans hp (Nat.le_self_pow (by omega) p)
  obtain ⟨kk,hkk⟩:p^few-1 ∣ p^m-1:=by
    have:=ycr (p^few) (m/few)
    rw [←Nat.pow_mul,Nat.mul_div_cancel' (Nat.dvd_of_mod_eq_zero hf)] at this
    exact this
  have h1:=zaC hp hm
  have hk0:0<kk:=by
    rcases Nat.eq_zero_or_pos kk with h|h
    · rw [h,Nat.mul_zero] at hkk;omega
    · exact h
  have hlt:∀j,j<p^few-1→kk*j<p^m-1:=fun j hj=>by
    rw [hkk,Nat.mul_comm (p^few-1)]
    exact Nat.mul_lt_mul_of_pos_left hj hk0
  have hnd:(0::(List.range (p^few-1)).map fun j=>pw p m t b (kk*j)).Nodup:=by
    rw [List.nodup_cons]
    refine ⟨fun h=>?_,zbc _ fun i j hi hj e=>?_⟩
    · obtain ⟨j,_,e⟩:=List.mem_map.mp h
      have:=G.pw_pos Pb.pos Pb.lt (kk*j)
      omega
    · have:=G.inj Pb _ _ (hlt i hi) (hlt j hj) e
      exact Nat.eq_of_mul_eq_mul_left hk0 this
  have:=zd2 hnd (l':=lets p m t few) fun x hx=>by
    rcases List.mem_cons.mp hx with h|h
    · rw [h,yeT G (by omega),show p^few=(p^few-1)+1 by omega,ze1 hp hm]
    · obtain ⟨j,hj,rfl⟩:=List.mem_map.mp h
      rw [yeT G (ybv hp hm _ _),←ybM hp hm,←G.pw_mod Pb.pos Pb.lt,show kk*j*p^few=kk*j+(p^m-1)*j from ?_,Nat.add_mul_mod_self_left,G.pw_mod Pb.pos Pb.lt]
      rw [hkk]
      obtain ⟨q,hq⟩:∃q,p^few=q+1:=⟨p^few-1,by omega⟩
      rw [hq,Nat.add_sub_cancel,Nat.mul_add,Nat.mul_one,Nat.add_comm,Nat.mul_right_comm,Nat.mul_comm kk q]
  simp only [List.length_cons,List.length_map,List.length_range] at this
  omega
end
def Rws (K:PySem.W.Frag) (H:Hp):List Addr→List (List Nat)→Prop
  | [],[]=>True
  | d::ds,r::rs=>SqT K H d (r.map Vn)∧Rws K H ds rs
  | _,_=>False
section
variable {K:PySem.W.Frag} {H H':Hp}
theorem Rws.same (s:Same H H'):∀ {ds:List Addr} {rs:List (List Nat)},Rws K H ds rs→Rws K H' ds rs
  | [],[],_=>trivial
  | _::_,_::_,h=>⟨Same.tup s h.1,Rws.same s h.2⟩
  | [],_::_,h=>h.elim
  | _::_,[],h=>h.elim
theorem Rws.len:∀ {ds:List Addr} {rs:List (List Nat)},Rws K H ds rs→ds.length=rs.length
  | [],[],_=>rfl
  | _::_,_::_,h=>by rw [List.length_cons,List.length_cons,Rws.len h.2]
  | [],_::_,h=>h.elim
  | _::_,[],h=>h.elim
theorem Rws.app:∀ {ds es:List Addr} {rs qs:List (List Nat)},Rws K H ds rs→Rws K H es qs→Rws K H (ds++es) (rs++qs)
  | [],_,[],_,_,h=>h
  | _::_,_,_::_,_,h,g=>⟨h.1,Rws.app h.2 g⟩
  | [],_,_::_,_,h,_=>h.elim
  | _::_,_,[],_,h,_=>h.elim
theorem Rws.get:∀ {ds:List Addr} {rs:List (List Nat)} {i:Nat},Rws K H ds rs→i<rs.length→∃d,ds[i]?=some d∧SqT K H d ((rs.getD i []).map Vn)
  | [],[],_,_,hi=>absurd hi (Nat.not_lt_zero _)
  | d::_,_::_,0,h,_=>⟨d,rfl,h.1⟩
  | _::_,_::_,i+1,h,hi=>Rws.get (i:=i) h.2 (Nat.lt_of_succ_lt_succ hi)
  | [],_::_,_,h,_=>h.elim
  | _::_,[],_,h,_=>h.elim
theorem Rws.mem:∀ {ds:List Addr} {rs:List (List Nat)} {d:Addr},Rws K H ds rs→d∈ds→∃r∈rs,SqT K H d (r.map Vn)
  | [],[],_,_,hd=>nomatch hd
  | e::ds,r::rs,d,h,hd=>by
    rcases List.mem_cons.mp hd with rfl|hd
    · exact ⟨r,List.mem_cons_self ..,h.1⟩
    · obtain ⟨q,hq,e⟩:=Rws.mem h.2 hd
      exact ⟨q,List.mem_cons_of_mem _ hq,e⟩
  | [],_::_,_,h,_=>h.elim
  | _::_,[],_,h,_=>h.elim
theorem Rws.perm {es ds:List Addr} (p:es.Perm ds):∀ {rs:List (List Nat)},Rws K H ds rs→∃qs:List (List Nat),qs.Perm rs∧Rws K H es qs:=by
  induction p with
  | nil=>exact fun h=>⟨_,.refl _,h⟩
  | cons x _ ih =>
    intro rs h
    cases rs with
    | nil=>exact h.elim
    | cons r rs =>
      obtain ⟨qs,h1,h2⟩:=ih h.2
      exact ⟨r::qs,h1.cons _,h.1,h2⟩
  | swap x y l =>
    intro rs h
    rcases rs with _ | ⟨r,_ | ⟨u,rs⟩⟩
    · exact h.elim
    · exact h.2.elim
    · exact ⟨u::r::rs,.swap ..,h.2.1,h.1,h.2.2⟩
  | trans _ _ ih1 ih2 =>
    intro rs h
    obtain ⟨qs,h1,h2⟩:=ih2 h
    obtain ⟨us,h3,h4⟩:=ih1 h2
    exact ⟨us,h3.trans h1,h4⟩
end
theorem ybK {α:Type} {l:List α} {i:Nat} {d:α} (h:i<l.length):l.take (i+1)=l.take i++[l.getD i d]:=by
  rw [List.take_succ_eq_append_getElem h]
  simp [List.getD,h]
def unG (fr k:Nat):List Nat:=List.replicate k 0++[1]++List.replicate (fr-k-1) 0
def mulR (p m t root:Nat) (marks:List Nat) (few fr k:Nat):List (List Nat):=(lets p m t few).map fun c=>zdz p m t c (mdL p m t root marks (unG fr k))
def wdL (p m t root:Nat) (marks:List Nat) (few fr:Nat):Nat→List (List Nat)
  | 0=>[mdL p m t root marks (List.replicate fr 0)]
  | k+1=>(wdL p m t root marks few fr k).flatMap fun u=>(mulR p m t root marks few fr k).map (sums p m u)
theorem ycs (p m t root:Nat) (marks:List Nat) (few fr:Nat):∀k,(wdL p m t root marks few fr k).length=(lets p m t few).length^k
  | 0=>rfl
  | k+1=>by
    show (List.flatMap _ _).length=_
    rw [List.length_flatMap,show (List.map (fun u=>((mulR p m t root marks few fr k).map (sums p m u)).length) (wdL p m t root marks few fr k))=(wdL p m t root marks few fr k).map fun _=>(lets p m t few).length from List.map_congr_left fun _ _=>by rw [List.length_map];exact List.length_map _]
    rw [List.map_const',List.sum_replicate_nat,ycs p m t root marks few fr k,Nat.pow_succ]
theorem yd5 {fr k:Nat} (h:k<fr):(unG fr k).length=fr:=by
  unfold unG
  rw [List.length_append,List.length_append,List.length_replicate,List.length_replicate,List.length_singleton];omega
theorem zfO (p m:Nat) (xs ys:List Nat):(sums p m xs ys).length=min xs.length ys.length:=by unfold sums;rw [List.length_map,List.length_range]
theorem zeT (p m t c:Nat) (xs:List Nat):(zdz p m t c xs).length=xs.length:=by unfold zdz;rw [List.length_map,List.length_range]
section
variable {p m t:Nat} (G:Good p m t)
include G
theorem zes {fr k:Nat}:∀x∈unG fr k,x<p^m:=fun x hx=>by
  have:=zaC G.hp G.hm
  unfold unG at hx
  simp only [List.mem_append,List.mem_replicate,List.mem_singleton] at hx
  omega
theorem ygs {xs ys:List Nat}:∀x∈sums p m xs ys,x<p^m:=fun x hx=>by
  obtain ⟨i,_,rfl⟩:=List.mem_map.mp hx
  exact zdi G.hp G.hm _ _
end
section
variable {P:Program} {w:World} {K:PySem.W.Frag} {mg:Str→Option Value} {base:Heap} {f:Addr} {fd:FuncData} {Re By Nr Tm Nt Nl:Addr}
def zcH (K:PySem.W.Frag):Sp:=fun vs H Q _=>∃(a:Addr) (p m t few:Nat),vs=[.ref a,Vn few]∧Fld K H a p m t∧Good p m t∧few≤6∧∀r H',Same H H'→H r=none→H' r=some (.tup ((lets p m t few).map Vn))→Q (.ref r) H'
theorem ycK:yaj ["field","few","q"] ["field","few"] (zad ybb):=⟨rfl,rfl,rfl,by decide +kernel,rfl,by decide +kernel,by decide +kernel⟩
theorem zew (B:Bl mg) (h_number_power:Has P w K mg base 1 "number_power" ["base","many"] yam) (h_power:Has P w K mg base 5 "power" ["field","one","many"] (zcV K)) (h_many_things:Has P w K mg base 2 "many_things" ["field"] (yc8 K)) (F:Fun K "letters" "letters" ybb f fd):FnOk P w K mg base CX0 6 f fd ["field","few"] (zcH K):=by
  refine F.ok ycK (fun vs H Q E h=>?_) (fun cdv A outer s H vs Q E hr h=>?_)
  · obtain ⟨a,p,m,t,few,rfl,_⟩:=h;rfl
  obtain ⟨a,p,m,t,few,rfl,hF,G,hf,q⟩:=h
  have hp:=G.hp
  have hm:=G.hm
  have hQ:=G.hq
  have hp2:=p_le hp hm hQ
  have hm6:=m_le hp hQ
  refine ⟨_,(@yaa _ _ _ _ _ (@yaf _ _ 2 _ _ _ _ ycK.nd rfl (Or.inr rfl) (@yad _ _ _ _ _ _ _ _ _ _ _ h_number_power hr (by decide) rfl (@zaa _ _ _ _ _ (@zao _ _ _ _ _ _ _ yau (pv 0) yac (fun _ _=>rfl)) (@zaa _ _ _ _ _ (pv 1) yab ⋯) ⋯) (by decide) ⋯ ⋯) ⋯ (by trivial)) (@zae _ _ _ (@yal _ _ _ _ (@zat _ _ _ _ _ _ _ _ _ yav rfl (B "tuple" (by decide)) zav (@zaa _ _ _ _ _ (@zbg _ _ _ _ _ _ _ ["one"] ["field","q"] [0,2] _ _ _ _ (id (α:=CSc ["field","few","q"] (zad ybb) ["one"] ["field","q"] [0,2] _) ⟨by rfl,by decide +kernel,by decide +kernel,by decide +kernel,by decide +kernel,by rfl,by decide +kernel⟩) rfl (@ya1 _ _ _ _ _ _ rfl (B "range" (by decide)) (@zaa _ _ _ _ _ (@yad _ _ _ _ _ _ _ _ _ _ _ h_many_things hr (by decide) rfl (@zaa _ _ _ _ _ (pv 0) yab ⋯) (by decide) ⋯ ⋯) yab ⋯) ⋯) (fun cl C fp s H=>(@zaf _ _ 0 _ (by show List.Nodup (["one","field","q"]:List Str);decide +kernel) rfl (Or.inl rfl) (by trivial))) (fun _ _ _ _ _=>(@ycc _ _ _ (@zaj _ _ _ _ _ _ _ _ ybw (@yad _ _ _ _ _ _ _ _ _ _ _ h_power hr (by decide) rfl (@zaa _ _ _ _ _ (pv 1) (@zaa _ _ _ _ _ (pv 0) (@zaa _ _ _ _ _ (pv 2) yab ⋯) ⋯) ⋯) (by decide) ⋯ ⋯) (pv 0) (zam _)))) (fun _ _ _ _ _=>(pv 0)) (by intro _;rfl)) yab ⋯) (by decide) (by decide) ⋯ ⋯)))),?_⟩
  refine ⟨_,rfl,a,_,_,_,rfl,rfl,hF,rfl,_,rfl,p,few,rfl,hp2,by omega,?_⟩
  dsimp only [zau]
  refine ⟨_,rfl,a,p,m,t,rfl,hF,hp2,by omega,?_⟩
  refine ⟨((p^m:Nat):Int),rfl,by omega,by omega,?_⟩
  refine zaI ya9 (fun k acc H'=>H'=H∧acc=(((List.range k).filter fun x=>decide (pw p m t x (p^few)=x)).map Vn)) ⟨rfl,rfl⟩ (fun _ _ _ _ _=>trivial) ?_ ?_ ?_
  · rintro k acc H' hk ⟨_,rfl⟩
    have:=List.length_filter_le (fun x=>decide (pw p m t x (p^few)=x)) (List.range k)
    rw [List.length_range] at this
    rw [List.length_map];exact yap (by omega)
  · rintro k acc x H' H'' hk ⟨rfl,rfl⟩ ⟨rfl,rfl⟩
    have hk2:k<p^m:=by omega
    refine ⟨_,rfl,_,rfl,_,rfl,a,p,m,t,k,((p^few:Nat):Int),?_,hF,G,hk2,by omega,?_⟩
    · rw [show (0+(k:Int))=(k:Int) by omega];rfl
    rw [zdU G hk2]
    refine ⟨_,rfl,rfl,_,rfl,?_⟩
    have ed:decide (Vn (pw p m t k (p^few))=V.int (0+(k:Int)))=decide (pw p m t k (p^few)=k):=by
      rw [show (0+(k:Int))=(k:Int) by omega]
      exact decide_eq_decide.mpr ⟨fun e=>Int.ofNat.inj (V.int.inj e),fun e=>by rw [e]⟩
    rw [ed,List.range_succ,List.filter_append]
    refine ite2 (fun c=>?_) (fun c=>?_)
    · have c':pw p m t k (p^few)=k:=of_decide_eq_true c
      refine ⟨_,rfl,rfl,?_⟩
      rw [List.map_append,show V.int (0+(k:Int))=Vn k from ycu (by omega)]
      simp [c']
    · have c':¬ pw p m t k (p^few)=k:=fun h=>c (decide_eq_true h)
      refine ⟨rfl,?_⟩
      simp [c']
  · rintro acc H1 ⟨rfl,rfl⟩ D hD
    rw [Int.toNat_natCast]
    have s1:=zac hD (.lst ((lets p m t few).map Vn))
    refine ⟨D,_,rfl,.inl ⟨SqL.of zab,fun r hr=>?_⟩⟩
    exact q r _ (s1.trans (zac hr _)) (s1.free hr) zab
def zcx (K:PySem.W.Frag):Sp:=fun vs H Q _=>∃(fa a b:Addr) (p m t:Nat) (xs ys:List Nat),vs=[.ref fa,.ref a,.ref b]∧Fld K H fa p m t∧Good p m t∧SqT K H a (xs.map Vn)∧SqT K H b (ys.map Vn)∧xs.length≤100∧(∀x∈xs,x<p^m)∧(∀y∈ys,y<p^m)∧
  ∀r H',Same H H'→H r=none→H' r=some (.tup ((sums p m xs ys).map Vn))→Q (.ref r) H'
theorem ydX:yaj ["field","one","other"] ["field","one","other"] (zad zaX):=⟨rfl,rfl,rfl,by decide +kernel,rfl,by decide +kernel,by decide +kernel⟩
theorem zdN (B:Bl mg) (h_plus:Has P w K mg base 1 "plus" ["field","one","other"] (zb0 K)) (F:Fun K "word_sum" "word_sum" zaX f fd):FnOk P w K mg base CX0 2 f fd ["field","one","other"] (zcx K):=by
  refine F.ok ydX (fun vs H Q E h=>?_) (fun cdv A outer s H vs Q E hr h=>?_)
  · obtain ⟨fa,a,b,p,m,t,xs,ys,rfl,_⟩:=h;rfl
  obtain ⟨fa,a,b,p,m,t,xs,ys,rfl,hF,G,ha,hb,hl,hx,hy,q⟩:=h
  have hp2:=p_le G.hp G.hm G.hq
  refine ⟨_,(@zae _ _ _ (@yal _ _ _ _ (@zat _ _ _ _ _ _ _ _ _ yav rfl (B "tuple" (by decide)) zav (@zaa _ _ _ _ _ (@zbg _ _ _ _ _ _ _ ["a","b"] ["field"] [0] _ _ _ _ (id (α:=CSc ["field","one","other"] (zad zaX) ["a","b"] ["field"] [0] _) ⟨by rfl,by decide +kernel,by decide +kernel,by decide +kernel,by decide +kernel,by rfl,by decide +kernel⟩) rfl (@zgY _ _ _ _ _ _ _ _ _ rfl (B "zip" (by decide)) (@zaa _ _ _ _ _ (pv 1) (@zaa _ _ _ _ _ (pv 2) yab ⋯) ⋯) ⋯ ⋯) (fun cl C fp s H=>(@yfe _ _ _ _ 2 _ K rfl rfl (@zah _ _ _ _ _ (@zaf _ _ 0 _ (by show List.Nodup (["a","b","field"]:List Str);decide +kernel) rfl (Or.inl rfl) (by trivial)) (@zah _ _ _ _ _ (@zaf _ _ 1 _ (by show List.Nodup (["a","b","field"]:List Str);decide +kernel) rfl (Or.inl rfl) (by trivial)) zaL ⋯) ⋯) ⋯ ⋯)) (fun _ _ _ _ _=>za6) (fun _ _ _ _ _=>(@yad _ _ _ _ _ _ _ _ _ _ _ h_plus hr (by decide) rfl (@zaa _ _ _ _ _ (pv 2) (@zaa _ _ _ _ _ (pv 0) (@zaa _ _ _ _ _ (pv 1) yab ⋯) ⋯) ⋯) (by decide) ⋯ ⋯)) (by intro _;rfl)) yab ⋯) (by decide) (by decide) ⋯ ⋯))),?_⟩
  refine ⟨_,rfl,_,rfl,true,true,a,b,rfl,⟨_,ha⟩,⟨_,hb⟩,?_⟩
  refine zaI (yfG (xs:=xs.map Vn) (ys:=ys.map Vn)) (fun k acc H'=>Same H H'∧acc=((List.range k).map fun i=>add p m (xs.getD i 0) (ys.getD i 0)).map Vn) ⟨Same.refl _,rfl⟩ (fun i acc H' _ h=>⟨Same.tup h.1 ha,Same.tup h.1 hb⟩) ?_ ?_ ?_
  · rintro k acc H' hk ⟨_,rfl⟩
    rw [List.length_map,List.length_map] at hk
    rw [List.length_map,List.length_map,List.length_range];exact yap (by omega)
  · rintro k acc z H1 H2 hk ⟨s1,rfl⟩ ⟨T,u,v,rfl,eu,ev,hT,rfl⟩
    rw [List.length_map,List.length_map] at hk
    rw [zaB (by omega)] at eu ev
    cases eu;cases ev
    refine ⟨T,_,rfl,SqT.of zab,rfl,_,_,rfl,_,_,rfl,rfl,?_⟩
    have s2:=s1.trans (zac hT (.tup [Vn (xs.getD k 0),Vn (ys.getD k 0)]))
    refine ⟨_,rfl,_,rfl,_,rfl,fa,p,m,t,xs.getD k 0,ys.getD k 0,rfl,Same.tup s2 hF,G.hp,hp2,fun r h1=>?_⟩
    cases yga G.hp G.hm (zby hx (by omega)) (zby hy (by omega)) h1
    refine ⟨s2,?_⟩
    rw [List.range_succ,List.map_append,List.map_append];rfl
  · rw [List.length_map,List.length_map]
    rintro acc H1 ⟨s1,rfl⟩ D hD
    refine ⟨D,_,rfl,.inl ⟨SqL.of zab,fun r hr=>?_⟩⟩
    have s2:=s1.trans (zac hD (.lst ((sums p m xs ys).map Vn)))
    exact q r _ (s2.trans (zac hr _)) (s2.free hr) zab
def yd6 (K:PySem.W.Frag):Sp:=fun vs H Q _=>∃(wh fa mk:Addr) (p m t few root n fr:Nat) (marks:List Nat),vs=[.ref wh]∧WhAt H wh fa mk few root marks∧Fld K H fa p m t∧Good p m t∧0<root∧root<p^m∧Ord p m t root n∧fr+marks.length=n∧Q (Vn fr) H
theorem zgo:yaj ["wheel"] ["wheel"] (zad ycN):=⟨rfl,rfl,rfl,by decide +kernel,rfl,by decide +kernel,by decide +kernel⟩
theorem zgL (B:Bl mg) (h_length:Has P w K mg base 5 "length" ["wheel"] (zdA K)) (F:Fun K "free" "free" ycN f fd):FnOk P w K mg base CX0 6 f fd ["wheel"] (yd6 K):=by
  refine F.ok zgo (fun vs H Q E h=>?_) (fun cdv A outer s H vs Q E hr h=>?_)
  · obtain ⟨wh,fa,mk,p,m,t,few,root,n,fr,marks,rfl,_⟩:=h;rfl
  obtain ⟨wh,fa,mk,p,m,t,few,root,n,fr,marks,rfl,hW,hF,G,h0,hq,o,hfr,q⟩:=h
  refine ⟨_,(@zae _ _ _ (@yal _ _ _ _ (@yag _ _ _ _ _ _ _ _ yaU (@yad _ _ _ _ _ _ _ _ _ _ _ h_length hr (by decide) rfl (@zaa _ _ _ _ _ (pv 0) yab ⋯) (by decide) ⋯ ⋯) (@zan _ _ _ _ _ _ _ _ _ yak rfl (B "len" (by decide)) PySem.boot_len (@zaa _ _ _ _ _ (@zao _ _ _ _ _ _ _ yau (pv 0) yac (fun _ _=>rfl)) yab ⋯) (by decide) (by decide) ⋯ ⋯)))),?_⟩
  refine ⟨_,rfl,wh,fa,p,m,t,few,root,_,rfl,SqT.of hW.w,hF,G,h0,hq,fun n' o' _=>?_⟩
  cases o'.uniq o
  refine ⟨_,rfl,wh,_,_,.ref mk,rfl,rfl,SqT.of hW.w,rfl,mk,_,rfl,.inr (SqT.of hW.k),_,_,rfl,rfl,?_⟩
  show Q (V.int ((n:Int)-(((marks.map Vn).length:Nat):Int))) H
  rw [List.length_map,show (n:Int)-(marks.length:Int)=(fr:Int) by omega]
  exact q
def yej (K:PySem.W.Frag):Sp:=fun vs H Q _=>∃(wh fa mk:Addr) (p m t few root n fr:Nat) (marks:List Nat),vs=[.ref wh]∧WhAt H wh fa mk few root marks∧Fld K H fa p m t∧Good p m t∧0<root∧root<p^m∧Ord p m t root n∧fr+marks.length=n∧few≤6∧p^few≤64∧n≤64∧Q (Vn ((p^few)^fr)) H
theorem ycg:yaj ["wheel","q"] ["wheel"] (zad za9):=⟨rfl,rfl,rfl,by decide +kernel,rfl,by decide +kernel,by decide +kernel⟩
theorem zfY (B:Bl mg) (h_number_power:Has P w K mg base 1 "number_power" ["base","many"] yam) (h_free:Has P w K mg base 6 "free" ["wheel"] (yd6 K)) (F:Fun K "how_many" "how_many" za9 f fd):FnOk P w K mg base CX0 7 f fd ["wheel"] (yej K):=by
  refine F.ok ycg (fun vs H Q E h=>?_) (fun cdv A outer s H vs Q E hr h=>?_)
  · obtain ⟨wh,fa,mk,p,m,t,few,root,n,fr,marks,rfl,_⟩:=h;rfl
  obtain ⟨wh,fa,mk,p,m,t,few,root,n,fr,marks,rfl,hW,hF,G,h0,hq,o,hfr,hf6,hpf,hn,q⟩:=h
  refine ⟨_,(@yaa _ _ _ _ _ (@yaf _ _ 1 _ _ _ _ ycg.nd rfl (Or.inl rfl) (@yad _ _ _ _ _ _ _ _ _ _ _ h_number_power hr (by decide) rfl (@zaa _ _ _ _ _ (@zao _ _ _ _ _ _ _ yau (@zao _ _ _ _ _ _ _ yau (pv 0) yac (fun _ _=>rfl)) yac (fun _ _=>rfl)) (@zaa _ _ _ _ _ (@zao _ _ _ _ _ _ _ yau (pv 0) yac (fun _ _=>rfl)) yab ⋯) ⋯) (by decide) ⋯ ⋯) ⋯ (by trivial)) (@zae _ _ _ (@yal _ _ _ _ (@yad _ _ _ _ _ _ _ _ _ _ _ h_number_power hr (by decide) rfl (@zaa _ _ _ _ _ (pv 1) (@zaa _ _ _ _ _ (@yad _ _ _ _ _ _ _ _ _ _ _ h_free hr (by decide) rfl (@zaa _ _ _ _ _ (pv 0) yab ⋯) (by decide) ⋯ ⋯) yab ⋯) ⋯) (by decide) ⋯ ⋯)))),?_⟩
  refine ⟨_,rfl,wh,_,_,.ref fa,rfl,rfl,SqT.of hW.w,rfl,fa,_,_,.int p,rfl,rfl,hF,rfl,_,rfl,wh,_,_,Vn few,rfl,rfl,SqT.of hW.w,rfl,p,few,rfl,p_le G.hp G.hm G.hq,by omega,?_⟩
  dsimp only [zau]
  refine ⟨_,rfl,_,rfl,wh,fa,mk,p,m,t,few,root,n,fr,marks,rfl,hW,hF,G,h0,hq,o,hfr,?_⟩
  exact ⟨p^few,fr,rfl,hpf,by omega,q⟩
theorem yfn {p m t root:Nat} {marks:List Nat} {few fr n:Nat} (G:Good p m t) (hfr:fr+marks.length=n):∀k,k≤fr→∀u∈wdL p m t root marks few fr k,u.length=n∧∀x∈u,x<p^m
  | 0,_,u,hu=>by
    have uz:∀x∈List.replicate fr 0,x<p^m:=fun x hx=>by rw [List.eq_of_mem_replicate hx];exact yaN G.hp G.hm
    cases List.mem_singleton.mp hu
    exact ⟨by rw [ydW G uz,List.length_replicate];omega,zgc G uz⟩
  | k+1,hk,u,hu=>by
    obtain ⟨v,hv,h1⟩:=List.mem_flatMap.mp hu
    obtain ⟨y,hy,rfl⟩:=List.mem_map.mp h1
    obtain ⟨c,_,rfl⟩:=List.mem_map.mp hy
    have h2:=yfn G hfr k (by omega) v hv
    refine ⟨?_,ygs G⟩
    rw [zfO,zeT,ydW G (zes G),yd5 (by omega),h2.1]
    omega
def WQ (K:PySem.W.Frag) (wh fa mk:Addr) (p m t few root n fr:Nat) (marks:List Nat) (H:Hp):Prop:=WhAt H wh fa mk few root marks∧Fld K H fa p m t∧Good p m t∧0<root∧root<p^m∧Ord p m t root n∧fr+marks.length=n∧n≤64∧m%few=0∧1≤few∧p^few≤64
def zdk (K:PySem.W.Frag) (Tm:Addr):Sp:=fun vs H Q E=>∃(wh fa mk:Addr) (p m t few root n fr:Nat) (marks:List Nat),vs=[.ref wh]∧WQ K wh fa mk p m t few root n fr marks H∧
  (4096<(p^few)^fr→E (.ref Tm) none H)∧((p^few)^fr≤4096→∀(r:Addr) (ds:List Addr) (rs:List (List Nat)) (H':Hp),Same H H'→SqT K H' r (ds.map V.ref)→Rws K H' ds rs→rs.Perm (wdL p m t root marks few fr fr)→Q (.ref r) H')
theorem za7:yaj ["wheel","field","own","many","found","place","alone","multiples"] ["wheel"] (zad zbw):=⟨rfl,rfl,rfl,by decide +kernel,rfl,by decide +kernel,by decide +kernel⟩
theorem ye8 {tk:Tok} (m_MOST_WORDS:mg "MOST_WORDS"=some (.int 4096 tk)) (B:Bl mg) (ER:Errs K mg Re By Nr Tm Nt Nl) (h_how_many:Has P w K mg base 7 "how_many" ["wheel"] (yej K)) (h_letters:Has P w K mg base 6 "letters" ["field","few"] (zcH K)) (h_free:Has P w K mg base 6 "free" ["wheel"] (yd6 K)) (h_made:Has P w K mg base 8 "made" ["wheel","given"] (zfb K)) (h_word_times:Has P w K mg base 4 "word_times" ["field","one","word"] (ybQ K)) (h_word_sum:Has P w K mg base 2 "word_sum" ["field","one","other"] (zcx K)) (F:Fun K "words" "words" zbw f fd):FnOk P w K mg base (CX1 P w) 9 f fd ["wheel"] (zdk K Tm):=by
  refine F.okX za7 (fun vs H Q E h=>?_) (fun cdv A outer s H vs Q E hr h=>?_)
  · obtain ⟨wh,fa,mk,p,m,t,few,root,n,fr,marks,rfl,_⟩:=h;rfl
  obtain ⟨wh,fa,mk,p,m,t,few,root,n,fr,marks,rfl,⟨hW,hF,G,h0,hq,o,hfr,hn,hmf,hf1,hpf⟩,qE,qQ⟩:=h
  have hp:=G.hp
  have hm:=G.hm
  have hQ:=zaC hp hm
  have hm6:=m_le hp G.hq
  have hf6:few≤6:=Nat.le_trans (Nat.le_of_dvd (by omega) (Nat.dvd_of_mod_eq_zero hmf)) hm6
  refine ⟨_,(@yaa _ _ _ _ _ (@zbe _ _ _ _ _ _ _ _ (@zaj _ _ _ _ _ _ _ _ zbJ (@yad _ _ _ _ _ _ _ _ _ _ _ h_how_many hr (by decide) rfl (@zaa _ _ _ _ _ (pv 0) yab ⋯) (by decide) ⋯ ⋯) (@zbW _ _ _ _ _ rfl m_MOST_WORDS (yeo _ _) (by decide)) (zam _)) (@zae _ _ _ (@yfJ _ _ _ _ _ _ _ _ _ _ _ _ _ _ _ _ _ _ _ _ _ _ _ _ (ER.one (by simp)) hr rfl ER.mTm (@zaa _ _ _ _ _ yaK yab ⋯) (by decide) ⋯ ⋯)) zaw) (@yaa _ _ _ _ _ (@ycI _ _ _ (@yaf _ _ 1 _ _ _ _ za7.nd rfl (Or.inr rfl) (@zao _ _ _ _ _ _ _ yau (pv 0) yac (fun _ _=>rfl)) ⋯ (by trivial))) (@yaa _ _ _ _ _ (@ycI _ _ _ (@yaf _ _ 2 _ _ _ _ za7.nd rfl (Or.inl rfl) (@yad _ _ _ _ _ _ _ _ _ _ _ h_letters hr (by decide) rfl (@zaa _ _ _ _ _ (pv 1) (@zaa _ _ _ _ _ (@zao _ _ _ _ _ _ _ yau (pv 0) yac (fun _ _=>rfl)) yab ⋯) ⋯) (by decide) ⋯ ⋯) ⋯ (by trivial))) (@yaa _ _ _ _ _ (@ycI _ _ _ (@yaf _ _ 3 _ _ _ _ za7.nd rfl (Or.inl rfl) (@yad _ _ _ _ _ _ _ _ _ _ _ h_free hr (by decide) rfl (@zaa _ _ _ _ _ (pv 0) yab ⋯) (by decide) ⋯ ⋯) ⋯ (by trivial))) (@yaa _ _ _ _ _ (@ycI _ _ _ (@yaf _ _ 4 _ _ _ _ za7.nd rfl (Or.inl rfl) (@zaK _ _ _ _ (@zaa _ _ _ _ _ (@yad _ _ _ _ _ _ _ _ _ _ _ h_made hr (by decide) rfl (@zaa _ _ _ _ _ (pv 0) (@zaa _ _ _ _ _ (@yag _ _ _ _ _ _ _ _ yc3 (@yaQ _ _ _ _ _ (@zaa _ _ _ _ _ yac yab ⋯)) (pv 3)) yab ⋯) ⋯) (by decide) ⋯ ⋯) yab ⋯)) ⋯ (by trivial))) (@yaa _ _ _ _ _ (@ycI _ _ _ (@zaU _ _ _ _ _ _ _ _ PassesOwn.never rfl (@ya1 _ _ _ _ _ _ rfl (B "range" (by decide)) (@zaa _ _ _ _ _ (pv 3) yab ⋯) ⋯) (@zaf _ _ 5 _ za7.nd rfl (Or.inl rfl) (by trivial)) (@yaa _ _ _ _ _ (@yaf _ _ 6 _ _ _ _ za7.nd rfl (Or.inr rfl) (@yad _ _ _ _ _ _ _ _ _ _ _ h_made hr (by decide) rfl (@zaa _ _ _ _ _ (pv 0) (@zaa _ _ _ _ _ (@yag _ _ _ _ _ _ _ _ ycB (@yag _ _ _ _ _ _ _ _ ycB (@yag _ _ _ _ _ _ _ _ yc3 (@yaQ _ _ _ _ _ (@zaa _ _ _ _ _ yac yab ⋯)) (pv 5)) (@yaQ _ _ _ _ _ (@zaa _ _ _ _ _ yac yab ⋯))) (@yag _ _ _ _ _ _ _ _ yc3 (@yaQ _ _ _ _ _ (@zaa _ _ _ _ _ yac yab ⋯)) (@yag _ _ _ _ _ _ _ _ yaU (@yag _ _ _ _ _ _ _ _ yaU (pv 3) (pv 5)) yac))) yab ⋯) ⋯) (by decide) ⋯ ⋯) ⋯ (by trivial)) (@yaa _ _ _ _ _ (@yaf _ _ 7 _ _ _ _ za7.nd rfl (Or.inr rfl) (@zbg _ _ _ _ _ _ _ ["letter"] ["field","alone"] [1,6] _ _ _ _ (id (α:=CSc ["wheel","field","own","many","found","place","alone","multiples"] (zad zbw) ["letter"] ["field","alone"] [1,6] _) ⟨by rfl,by decide +kernel,by decide +kernel,by decide +kernel,by decide +kernel,by rfl,by decide +kernel⟩) rfl (@zeK _ _ _ _ (pv 2)) (fun cl C fp s H=>(@zaf _ _ 0 _ (by show List.Nodup (["letter","field","alone"]:List Str);decide +kernel) rfl (Or.inl rfl) (by trivial))) (fun _ _ _ _ _=>za6) (fun _ _ _ _ _=>(@yad _ _ _ _ _ _ _ _ _ _ _ h_word_times hr (by decide) rfl (@zaa _ _ _ _ _ (pv 1) (@zaa _ _ _ _ _ (pv 0) (@zaa _ _ _ _ _ (pv 2) yab ⋯) ⋯) ⋯) (by decide) ⋯ ⋯)) (by intro _;rfl)) ⋯ (by trivial)) (@zae _ _ _ (yfI (i:=4) za7.nd rfl (Or.inl rfl) (tg:=["word","multiple"]) (cp:=["multiples","field"]) (ci:=[7,1]) (id (α:=CSc ["wheel","field","own","many","found","place","alone","multiples"] (zad zbw) ["word","multiple"] ["multiples","field"] [7,1] _) ⟨by rfl,by decide +kernel,by decide +kernel,by decide +kernel,by decide +kernel,by rfl,by decide +kernel⟩) rfl (zbk (pv 4)) (fun cl C fp s H=>(zaf (i:=0) (by show List.Nodup (["word","multiple","multiples","field"]:List Str);decide +kernel) rfl (Or.inl rfl))) (fun _ _ _ _ _=>(yfU (K:=K) rfl (pv 2))) (fun cl C fp s H=>(zaf (i:=1) (by show List.Nodup (["word","multiple","multiples","field"]:List Str);decide +kernel) rfl (Or.inl rfl))) (fun _ _ _ _ _=>(yad h_word_sum hr (by decide) rfl (zaa (pv 3) (zaa (pv 0) (zaa (pv 1) yab))))))))) (by intro _;rfl))) (@zae _ _ _ (@ycI _ _ _ (@yal _ _ _ _ (@zat _ _ _ _ _ _ _ _ _ yav rfl (B "tuple" (by decide)) zav (@zaa _ _ _ _ _ (@zan _ _ _ _ _ _ _ _ _ ydv rfl (B "sorted" (by decide)) ybH (@zaa _ _ _ _ _ (pv 4) yab ⋯) (by decide) (by decide) ⋯ ⋯) yab ⋯) (by decide) (by decide) ⋯ ⋯)))))))))),?_⟩
  refine ⟨_,rfl,wh,fa,mk,p,m,t,few,root,n,fr,marks,rfl,hW,hF,G,h0,hq,o,hfr,hf6,hpf,hn,?_⟩
  refine ⟨_,_,rfl,rfl,_,rfl,?_⟩
  refine ite2 (fun c=>⟨szl 1,qE (by have:=of_decide_eq_true c;omega)⟩) (fun c=>?_)
  have hz:(p^few)^fr≤4096:=by have:=of_decide_eq_false (Bool.eq_false_iff.mpr c);omega
  have qQ:=qQ hz
  dsimp only [ze4,zau]
  refine ⟨_,rfl,wh,_,_,.ref fa,rfl,rfl,SqT.of hW.w,rfl,?_⟩
  dsimp only [zau]
  refine ⟨_,rfl,_,rfl,wh,_,_,Vn few,rfl,rfl,SqT.of hW.w,rfl,fa,p,m,t,few,rfl,hF,G,hf6,fun ow H1 s1 now eow=>?_⟩
  have hW1:=hW.same s1
  have hF1:=Same.tup s1 hF
  dsimp only [zau]
  refine ⟨_,rfl,wh,fa,mk,p,m,t,few,root,n,fr,marks,rfl,hW1,hF1,G,h0,hq,o,hfr,?_⟩
  dsimp only [zau]
  refine ⟨_,rfl,szl 1,fun z hz1=>?_⟩
  have t1:=zac hz1 (.tup [.int 0])
  refine ⟨_,rfl,ydc (SqT.of zab) (by omega) fun z2 H2 t2 hz2=>?_⟩
  have s2:=s1.trans (t1.trans t2)
  refine ⟨wh,fa,mk,z2,p,m,t,few,root,marks,_,rfl,hW.same s2,Same.tup s2 hF,G,h0,hq,by omega,hz2,by rw [List.length_replicate];omega,fun x hx=>by rw [List.eq_of_mem_replicate hx];exact yaN hp hm,fun w0 H3 t3 hw0=>?_⟩
  have s3:=s2.trans t3
  refine ⟨szl 1,fun D hD=>?_⟩
  have t4:=zac hD (.lst [.ref w0])
  have s4:=s3.trans t4
  dsimp only [zau]
  have ll:=zfp G hmf hf1
  have wl:∀k,k≤fr→(wdL p m t root marks few fr k).length≤4096:=fun k hk=>by
    rw [ycs,ll]
    exact Nat.le_trans (Nat.pow_le_pow_right (Nat.pow_pos (by omega)) hk) hz
  have uz:∀x∈List.replicate fr 0,x<p^m:=fun x hx=>by rw [List.eq_of_mem_replicate hx];exact yaN hp hm
  have wr:∀k,k≤fr→∀u∈wdL p m t root marks few fr k,u.length=n∧∀x∈u,x<p^m:=yfn G hfr
  refine ⟨_,rfl,(fr:Int),rfl,by omega,by omega,?_⟩
  refine za4 (ya9 (lo:=0) (n:=((fr:Nat):Int).toNat)) (fun k σ H'=>Same H H'∧H' ow=some (.tup ((lets p m t few).map Vn))∧∃(D:Addr) (ds:List Addr) (s5 s6 s7:Option V),H' D=some (.lst (ds.map V.ref))∧Rws K H' ds (wdL p m t root marks few fr k)∧σ=[some (.ref wh),some (.ref fa),some (.ref ow),some (Vn fr),some (.ref D),s5,s6,s7]) ⟨s4,t4 _ _ (t3 _ _ (t2 _ _ (t1 _ _ eow))),D,[w0],none,none,none,zab,⟨Same.tup t4 hw0,trivial⟩,rfl⟩ (fun _ _ _ _ _=>trivial) ?_ ?_
  · rintro k x σ H5 H5' hk ⟨s5,e5,D,ds,v5,v6,v7,eD,hR,rfl⟩ ⟨rfl,rfl⟩
    rw [Int.toNat_natCast] at hk
    rw [show V.int (0+(k:Int))=Vn k from ycu (Int.zero_add _)]
    dsimp only [zau]
    refine ⟨_,rfl,szl 1,fun a1 ha1=>?_⟩
    have x1:=zac ha1 (.tup [.int 0])
    refine ⟨_,rfl,ydc (SqT.of zab) (by omega) fun a2 H6 x2 ha2=>?_⟩
    refine ⟨szl 1,fun a3 ha3=>?_⟩
    have x3:=zac ha3 (.tup [.int 1])
    refine zcU (Same.tup x3 ha2) (SqT.of zab) (by rw [List.length_map,List.length_replicate,List.length_singleton];omega) fun a4 H7 x4 ha4=>?_
    refine ⟨szl 1,fun a5 ha5=>?_⟩
    have x5:=zac ha5 (.tup [.int 0])
    refine ⟨_,rfl,_,rfl,_,_,rfl,rfl,_,_,rfl,rfl,?_⟩
    rw [show ((fun i j:Int=>V.int (i-j)) ((fr:Int)-(k:Int)) 1)=Vn (fr-k-1) from ycu (by omega)]
    refine ydc (SqT.of zab) (by omega) fun a6 H8 x6 ha6=>?_
    refine zcU (Same.tup (x5.trans x6) ha4) ha6 (by rw [List.length_append,List.length_map,List.length_replicate,List.length_map,List.length_replicate];show k+1+_≤_;omega) fun a7 H9 x7 ha7=>?_
    have s9:=s5.trans ((x1.trans x2).trans ((x3.trans x4).trans ((x5.trans x6).trans x7)))
    have y9:=(x1.trans x2).trans ((x3.trans x4).trans ((x5.trans x6).trans x7))
    have eu:(List.replicate k 0).map Vn++[.int 1]++(List.replicate (fr-k-1) 0).map Vn=(unG fr k).map Vn:=by
      unfold unG
      rw [List.map_append,List.map_append];rfl
    rw [eu] at ha7
    refine ⟨wh,fa,mk,a7,p,m,t,few,root,marks,unG fr k,rfl,hW.same s9,Same.tup s9 hF,G,h0,hq,by omega,ha7,by rw [yd5 hk];omega,zes G,fun al H10 x10 hal=>?_⟩
    have s10:=s9.trans x10
    have hal1:(mdL p m t root marks (unG fr k)).length=n:=by rw [ydW G (zes G),yd5 hk];omega
    have hal2:=zgc (root:=root) (marks:=marks) G (zes (fr:=fr) (k:=k) G)
    dsimp only [zau]
    have hF10:=Same.tup s10 hF
    have eow10:=x10 _ _ (y9 _ _ e5)
    refine ⟨_,rfl,ow,rfl,⟨_,SqT.of eow10⟩,?_⟩
    refine zaI (yc6 (xs:=(lets p m t few).map Vn)) (fun i acc H'=>Same H10 H'∧∃ms:List Addr,acc=ms.map V.ref∧Rws K H' ms ((mulR p m t root marks few fr k).take i)) ⟨Same.refl _,[],rfl,trivial⟩ (fun i acc H' _ h=>SqT.of (h.1 _ _ eow10)) ?_ ?_ ?_
    · rintro i acc H' hi ⟨_,ms,rfl,hms⟩
      have h1:=hms.len
      rw [List.length_take] at h1
      rw [List.length_map,ll] at hi
      rw [List.length_map];exact yap (by omega)
    · rintro i acc z H11 H12 hi ⟨s11,ms,rfl,hms⟩ ⟨rfl,ez⟩
      rw [List.length_map] at hi
      rw [zaB hi] at ez
      cases ez
      refine ⟨_,rfl,_,rfl,_,rfl,fa,al,p,m,t,(lets p m t few).getD i 0,mdL p m t root marks (unG fr k),rfl,Same.tup s11 hF10,G,zby ygt hi,Same.tup s11 hal,by omega,hal2,fun r H13 s13 _ er=>?_⟩
      refine ⟨s11.trans s13,ms++[r],by rw [List.map_append];rfl,?_⟩
      rw [ybK (d:=[]) (by unfold mulR;rw [List.length_map];exact hi)]
      refine (hms.same s13).app ⟨?_,trivial⟩
      have e:(mulR p m t root marks few fr k).getD i []=zdz p m t ((lets p m t few).getD i 0) (mdL p m t root marks (unG fr k)):=by
        unfold mulR
        simp [List.getD,hi]
      rw [e]
      exact SqT.of er
    rw [List.length_map]
    rintro acc H11 ⟨s11,ms,rfl,hms⟩ M hM
    rw [List.take_of_length_le (by unfold mulR;rw [List.length_map];exact Nat.le_refl _)] at hms
    have x12:=zac hM (.lst (ms.map V.ref))
    have s12:=s10.trans (s11.trans x12)
    have z12:=(y9.trans x10).trans (s11.trans x12)
    dsimp only [zau]
    have eM:upd H11 M (.lst (ms.map V.ref)) M=some (.lst (ms.map V.ref)):=zab
    have hms12:=hms.same x12
    have eow12:=z12 _ _ e5
    have eD12:=z12 _ _ eD
    have hR12:=hR.same z12
    generalize upd H11 M (.lst (ms.map V.ref))=H12 at x12 s12 z12 eM hms12 eow12 eD12 hR12 ⊢
    refine ⟨_,rfl,D,rfl,⟨_,SqL.of eD12⟩,?_⟩
    have hRl:=hR12.len
    have hml:=hms12.len
    have hmul:(mulR p m t root marks few fr k).length=(lets p m t few).length:=List.length_map _
    have sz:∀i j:Nat,i<(wdL p m t root marks few fr k).length→j<(lets p m t few).length→i*(lets p m t few).length+j<4096:=fun i j hi hj=>by
      have h1:=wl (k+1) hk
      have h2:(wdL p m t root marks few fr (k+1)).length=(wdL p m t root marks few fr k).length*(lets p m t few).length:=by rw [ycs,ycs,Nat.pow_succ]
      have h3:(i+1)*(lets p m t few).length≤(wdL p m t root marks few fr k).length*(lets p m t few).length:=Nat.mul_le_mul_right _ hi
      rw [Nat.succ_mul] at h3
      omega
    have fl:∀i,i≤(wdL p m t root marks few fr k).length→(((wdL p m t root marks few fr k).take i).flatMap fun u=>(mulR p m t root marks few fr k).map (sums p m u)).length=i*(lets p m t few).length:=fun i hi=>by
      rw [List.length_flatMap,show (List.map (fun u=>((mulR p m t root marks few fr k).map (sums p m u)).length) ((wdL p m t root marks few fr k).take i))=((wdL p m t root marks few fr k).take i).map fun _=>(lets p m t few).length from List.map_congr_left fun _ _=>by rw [List.length_map];exact hmul]
      rw [List.map_const',List.sum_replicate_nat,List.length_take,Nat.min_eq_left hi]
    refine ze5 (za1 (xs:=ds.map V.ref)) (In:=fun acc N σ H=>tIn _ _ _ acc N σ H) (fun i acc H'=>Same H12 H'∧∃es:List Addr,acc=es.map V.ref∧Rws K H' es (((wdL p m t root marks few fr k).take i).flatMap fun u=>(mulR p m t root marks few fr k).map (sums p m u))) ⟨Same.refl _,[],rfl,trivial⟩ (fun i acc H' _ h=>SqL.of (h.1 _ _ eD12)) ?_ ?_
    · rintro i acc x H13 H13' hi ⟨s13,es,rfl,hes⟩ ⟨rfl,ez⟩
      rw [List.length_map,hRl] at hi
      obtain ⟨d,ed,hd⟩:=hR12.get hi
      rw [List.getElem?_map,ed] at ez
      cases ez
      obtain ⟨u,eu⟩:∃u,u=(wdL p m t root marks few fr k).getD i []:=⟨_,rfl⟩
      rw [←eu] at hd
      have hu:=wr k (by omega) u (by rw [eu];simp [List.getD,hi])
      have hmsl:=fl i (Nat.le_of_lt hi)
      rw [ybK (d:=[]) hi,List.flatMap_append,←eu,List.flatMap_singleton]
      generalize (((wdL p m t root marks few fr k).take i).flatMap fun u=>(mulR p m t root marks few fr k).map (sums p m u))=prev at hes hmsl ⊢
      refine ⟨_,rfl,M,rfl,⟨_,SqL.of (s13 _ _ eM)⟩,?_⟩
      refine ygX (za1 (xs:=ms.map V.ref)) (fun j σ acc H'=>Same H12 H'∧(∃es:List Addr,acc=es.map V.ref∧Rws K H' es (prev++((mulR p m t root marks few fr k).take j).map (sums p m u)))∧∃sj,σ=[some (.ref d),sj,some (.ref M),some (.ref fa)]) ⟨s13,⟨es,rfl,by rw [List.take_zero,List.map_nil,List.append_nil];exact hes⟩,none,rfl⟩ (fun j σ acc H' _ h=>SqL.of (h.1 _ _ eM)) ?_ ?_ ?_
      · rintro j σ acc H' hj ⟨_,⟨es,rfl,he⟩,_⟩
        have h1:=he.len
        rw [List.length_append,List.length_map,List.length_take] at h1
        rw [List.length_map,hml,hmul] at hj
        have:=sz i j hi hj
        rw [List.length_map,h1,hmsl]
        exact szl _ (show i*(lets p m t few).length+min j _+1≤100000 by omega)
      · rintro j σ acc x Ha Hb hj ⟨sa,⟨es,rfl,he⟩,sj,rfl⟩ ⟨rfl,ez⟩
        rw [List.length_map,hml] at hj
        obtain ⟨d2,ed2,hd2⟩:=hms12.get hj
        rw [List.getElem?_map,ed2] at ez
        cases ez
        have e2:(mulR p m t root marks few fr k).getD j []=zdz p m t ((lets p m t few).getD j 0) (mdL p m t root marks (unG fr k)):=by
          unfold mulR
          simp [List.getD,hmul ▸ hj]
        refine ⟨_,rfl,_,rfl,_,rfl,fa,d,d2,p,m,t,u,(mulR p m t root marks few fr k).getD j [],rfl,Same.tup (s12.trans sa) hF,G,Same.tup sa hd,Same.tup sa hd2,by omega,hu.2,by rw [e2];exact yfM G _ _,fun r Hc sc _ er=>?_⟩
        refine ⟨sa.trans sc,⟨es++[r],by rw [List.map_append];rfl,?_⟩,_,rfl⟩
        rw [ybK (d:=[]) hj,List.map_append,←List.append_assoc]
        exact (he.same sc).app ⟨SqT.of er,trivial⟩
      · rintro σ acc Ha ⟨sa,⟨es,rfl,he⟩,_⟩
        rw [List.length_map,hml,List.take_length] at he
        exact ⟨sa,es,rfl,he⟩
    · rintro acc H13 ⟨s13,es,rfl,hes⟩ D2 hD2
      rw [List.length_map,hRl,List.take_length] at hes
      have x14:=zac hD2 (.lst (es.map V.ref))
      exact ⟨s12.trans (s13.trans x14),x14 _ _ (s13 _ _ eow12),D2,es,_,_,_,zab,hes.same x14,rfl⟩
  · rw [Int.toNat_natCast]
    rintro σ H5 ⟨s5,e5,D,ds,v5,v6,v7,eD,hR,rfl⟩
    refine ⟨_,rfl,D,ds,rfl,SqL.of eD,fun d hd=>?_,fun l es hl pe=>?_⟩
    · obtain ⟨r,hr,h⟩:=hR.mem hd
      refine ⟨r.map Int.ofNat,?_,by rw [List.map_map];exact h⟩
      rw [List.length_map,(wr fr (Nat.le_refl _) r hr).1]
      exact o.pos
    · obtain ⟨qs,pq,hq2⟩:=hR.perm pe
      have x6:=zac hl (.lst (es.map V.ref))
      refine ⟨l,_,rfl,.inl ⟨SqL.of zab,fun r hr=>?_⟩⟩
      have x7:=x6.trans (zac hr (.tup (es.map V.ref)))
      exact qQ r es qs _ (s5.trans x7) (SqT.of zab) (hq2.same x7) pq
end
end My
end
section
-- text: Q22
namespace My
open PySem L2 Dg
section
variable {P:Program} {w:World} {K:PySem.W.Frag} {mg:Str→Option Value} {base:Heap} {f:Addr} {fd:FuncData} {Re By Nr Tm Nt Nl:Addr}
def zdH (K:PySem.W.Frag):Sp:=fun vs H Q _=>∃(wh fa mk:Addr) (p m t few root n fr:Nat) (marks:List Nat),vs=[.ref wh]∧WQ K wh fa mk p m t few root n fr marks H∧
  (4096<(p^few)^fr→∀H',Same H H'→Q (.str "many") H')∧((p^few)^fr≤4096→∀H',Same H H'→Q (Vn ((p^few)^fr)) H')
theorem WQ.same {wh fa mk:Addr} {p m t few root n fr:Nat} {marks:List Nat} {H H':Hp} (h:WQ K wh fa mk p m t few root n fr marks H) (s:Same H H'):WQ K wh fa mk p m t few root n fr marks H':=⟨h.1.same s,Same.tup s h.2.1,h.2.2⟩
theorem yaC:yaj ["_law_wheel_here","_law_word","_law_found","error","_law_others"] ["_law_wheel_here"] (zad zaV):=⟨rfl,rfl,rfl,by decide +kernel,rfl,by decide +kernel,by decide +kernel⟩
theorem yeY (B:Bl mg) (ER:Errs K mg Re By Nr Tm Nt Nl) (h_words:HasX P w K mg base 9 "words" ["wheel"] (zdk K Tm)) (F:Fun K "_law_told" "_law_told" zaV f fd):FnOk P w K mg base CX0 10 f fd ["_law_wheel_here"] (zdH K):=by
  refine F.ok yaC (fun vs H Q E h=>?_) (fun cdv A outer s H vs Q E hr h=>?_)
  · obtain ⟨wh,fa,mk,p,m,t,few,root,n,fr,marks,rfl,_⟩:=h;rfl
  obtain ⟨wh,fa,mk,p,m,t,few,root,n,fr,marks,rfl,hWQ,qE,qQ⟩:=h
  refine ⟨_,(yaa (@yaf _ _ 1 _ _ _ _ yaC.nd rfl (Or.inl rfl) yaK ⋯ (by trivial)) (yaa (@yaf _ _ 2 _ _ _ _ yaC.nd rfl (Or.inl rfl) (@yaQ _ _ _ _ _ yab) ⋯ (by trivial)) (yaa (@zg3 _ _ _ _ _ _ 3 _ _ _ _ _ _ ⟨rfl,rfl⟩ yaC.nd rfl rfl rfl ER.mRe (fun pins F=>(zae (@yaf _ _ 2 _ _ _ _ yaC.nd rfl (Or.inl rfl) (@zfG _ _ _ _ _ _ _ _ _ _ _ _ _ h_words hr (by decide) rfl (zaa (pv 0) yab ⋯) (by decide) ⋯ ⋯) ⋯ (by trivial)))) (fun a=>(yaa (@yaf _ _ 4 _ _ _ _ yaC.nd rfl (Or.inl rfl) (zan (zdf (K:=K) rfl) rfl (B "isinstance" (by decide)) PyProof.Rows.boot_isinstance (zaa (pv 3) (zaa (@yaQ _ _ _ _ _ (zaa (@zbW _ _ _ _ _ rfl ER.mBy (ybT _) (by decide)) (zaa (@zbW _ _ _ _ _ rfl ER.mNl (ybT _) (by decide)) (zaa (@zbW _ _ _ _ _ rfl ER.mNr (ybT _) (by decide)) (zaa (@zbW _ _ _ _ _ rfl ER.mNt (ybT _) (by decide)) yab ⋯) ⋯) ⋯) ⋯)) yab ⋯) ⋯) (by decide) (by decide) ⋯ ⋯) ⋯ (by trivial)) (zae (@yaf _ _ 1 _ _ _ _ yaC.nd rfl (Or.inl rfl) (zao (yf3 (K:=K) rfl) (@zaK _ _ _ _ (zaa yaK (zaa yaK yab ⋯) ⋯)) (zat ycq rfl (B "int" (by decide)) zbM (zaa (@zge _ _ _ _ _ _ _ (zan (zdf (K:=K) rfl) rfl (B "isinstance" (by decide)) PyProof.Rows.boot_isinstance (zaa (pv 3) (zaa (@zbW _ _ _ _ _ rfl ER.mTm (ybT _) (by decide)) yab ⋯) ⋯) (by decide) (by decide) ⋯ ⋯) (@zge _ _ _ _ _ _ _ (zan (zdf (K:=K) rfl) rfl (B "isinstance" (by decide)) PyProof.Rows.boot_isinstance (zaa (pv 3) (zaa (@ygj _ _ _ _ _ rfl ER.mV ybV (zgq _) (by decide) (by decide)) yab ⋯) ⋯) (by decide) (by decide) ⋯ ⋯) (@zgX _ _ _ _ _ (@zhe _ _ _ _ (pv 4))))) yab ⋯) (by decide) (by decide) ⋯ ⋯) (fun _ _=>rfl)) ⋯ (by trivial))))) (by decide)) (zae (@yal _ _ _ _ (@yf2 _ _ _ _ _ _ _ _ (@zaj _ _ _ _ _ _ _ _ zd5 (pv 1) yaK (zam _)) (pv 1) (zan yak rfl (B "len" (by decide)) PySem.boot_len (zaa (pv 2) yab ⋯) (by decide) (by decide) ⋯ ⋯))))))),?_⟩
  dsimp only [zau]
  refine ⟨szl 0,fun t2 ht2=>?_⟩
  have s2:=zac ht2 (.tup [])
  dsimp only [zau]
  refine ⟨_,rfl,wh,fa,mk,p,m,t,few,root,n,fr,marks,rfl,hWQ.same s2,fun bad=>⟨Tm,rfl,ER.match_ (by simp),fun ex hex=>?_⟩,fun le r ds rs H3 s3 hr3 hR hP=>?_⟩
  · have s3:=zac hex (ExcO ex Tm)
    have ex3:upd (upd H t2 (.tup [])) ex (ExcO ex Tm) ex=some (ExcO ex Tm):=zab
    have one:=ER.one (C:=Tm) (by simp)
    have nd:=ER.nd
    simp only [List.nodup_cons,List.mem_cons,List.not_mem_nil,or_false,not_or] at nd
    refine ⟨_,rfl,szl 4,fun tp htp=>?_⟩
    have s4:=zac htp (.tup [.ref By,.ref Nl,.ref Nr,.ref Nt])
    refine ⟨_,_,_,_,rfl,.exc (s4 _ _ ex3) one,.tup (ds:=[By,Nl,Nr,Nt]) zab (ER.any_no (by simp) ?_),?_⟩
    · intro D hD
      simp only [List.mem_cons,List.not_mem_nil,or_false] at hD
      obtain ⟨⟨n1,n2,n3,n4⟩,⟨n5,n6,n7⟩,⟨n8,n9⟩,_⟩:=nd
      rcases hD with rfl|rfl|rfl|rfl
      · exact ⟨by simp,Ne.symm n2⟩
      · exact ⟨by simp,n9⟩
      · exact ⟨by simp,Ne.symm n5⟩
      · exact ⟨by simp,n8⟩
    dsimp only [zau]
    have s5:Same H _:=s2.trans (s3.trans s4)
    have ex4:=s4 _ _ ex3
    generalize upd (upd (upd H t2 (.tup [])) ex (ExcO ex Tm)) tp (.tup [.ref By,.ref Nl,.ref Nr,.ref Nt])=H4 at s5 ex4 ⊢
    refine ⟨szl 2,fun l1 hl1=>?_⟩
    have s6:=zac hl1 (.lst [.str "other",.str "many"])
    refine ⟨_,rfl,_,_,_,_,rfl,.exc (s6 _ _ ex4) one,.own (ER.yes (by simp)),true,rfl,?_⟩
    refine ite2 (fun _=>?_) (fun c=>absurd rfl c)
    refine ⟨_,rfl,_,_,_,_,rfl,.exc (s6 _ _ ex4) one,.ty (ER.val (by simp)),true,rfl,?_⟩
    refine ite2 (fun _=>?_) (fun c=>absurd rfl c)
    refine ⟨_,rfl,false,rfl,.inr ⟨true,rfl,?_⟩⟩
    refine ⟨l1,_,1,.str "many",rfl,rfl,SqL.of zab,rfl,?_⟩
    dsimp only [zau]
    refine ⟨_,rfl,rfl,_,rfl,?_⟩
    refine ite2 (fun _=>?_) (fun c=>absurd (by decide) c)
    exact ⟨_,rfl,qE bad _ (s5.trans s6)⟩
  · dsimp only [zau]
    refine ⟨_,rfl,rfl,_,rfl,?_⟩
    refine ite2 (fun c=>absurd c (by decide)) (fun _=>?_)
    refine ⟨_,rfl,r,_,rfl,.inr hr3,?_⟩
    obtain ⟨_,_,G,_,_,_,_,_,hmf,hf1,_⟩:=hWQ
    have el:(ds.map V.ref).length=(p^few)^fr:=by rw [List.length_map,hR.len,hP.length_eq,ycs,zfp G hmf hf1]
    rw [el]
    exact qQ le _ (s2.trans s3)
theorem ygF {H:Hp} {a b:Addr} {xs ys:List V} {Q:VK} (ha:SqT K H a xs) (hb:SqT K H b ys) (hz:xs.length+ys.length≤1000) (h1:xs≠[]) (h2:ys≠[]) (q:∀p,H p=none→Q (.ref p) (upd H p (.tup (xs++ys)))):zgE K (.ref a) (.ref b) H Q :=
  ⟨a,b,xs,ys,rfl,rfl,ha,hb,szl _ (by omega),fun e=>absurd e h1,fun _ e=>absurd e h2,fun _ _ p hp=>q p hp⟩
theorem ycM (xs:List V) (N:Nat):cutV xs none (some (N:Int))=xs.take N:=by
  unfold cutV
  rw [HT.sIx_none,HT.sIx_nat,List.drop_zero,Nat.sub_zero,←List.take_eq_take_min]
theorem zg7 {K:PySem.W.Frag} {H:Hp} {a:Addr} {xs:List V} {N:Nat} {Q:VK} (h:SqT K H a xs) (q:∀(r:Addr) H',Same H H'→SqT K H' r (xs.take N)→Q (.ref r) H'):rSlA K (.ref a) none (some (N:Int)) H Q:=by
  refine ⟨a,_,rfl,h,fun e=>?_,fun l hl=>?_⟩
  · rw [ycM] at e
    exact q a H (Same.refl _) (by rw [e];exact h)
  · rw [ycM]
    exact q l _ (zac hl _) (SqT.of zab)
theorem zgi {A B:TT} {t u:TS} {D:Ends} {σ:St} {H:Hp} (hA:∃c,∀Q:Bool→Hp→Prop,Q c H→A σ H Q) (hB:∃c,∀Q:Bool→Hp→Prop,Q c H→B σ H Q) (ht:t D σ H) (hu:u D σ H):tIfS (tOr A B) t u D σ H:=by
  obtain ⟨c1,hA⟩:=hA
  obtain ⟨c2,hB⟩:=hB
  refine hA _ ?_
  cases c1
  · refine hB _ ?_
    cases c2
    · exact hu
    · exact ht
  · exact ht
def zdx (K:PySem.W.Frag):Sp:=fun vs H Q _=>∃(a:Addr) (ns:List Int),vs=[.ref a]∧SqL K H a (ns.map V.int)∧∀H',Q (.bl true) H'
theorem yby:yaj ["_law_script","_law_purse_here","_law_table_here","_law_wheel_here","_law_n","_law_q","_law_at","_law_marks","_law_asked","_law_turn","_law_many","_law_told_here"] ["_law_script"] (zad zdg):=⟨rfl,rfl,rfl,by decide +kernel,rfl,by decide +kernel,by decide +kernel⟩
theorem yg3 (B:Bl mg) (h__law_purse:Has P w K mg base 1 "_law_purse" ["_law_script"] (zec K)) (h__law_pick:Has P w K mg base 1 "_law_pick" ["_law_purse_here","_law_many"] yc2) (h__law_wheel:Has P w K mg base 5 "_law_wheel" ["_law_purse_here","_law_most"] ydD) (h__law_roots:Has P w K mg base 2 "_law_roots" ["_law_table_here","_law_root"] ydt) (h__law_raised:Has P w K mg base 1 "_law_raised" ["_law_one","_law_many"] yam)
    (h__law_ring:Has P w K mg base 1 "_law_ring" ["_law_i","_law_n","_law_q"] zcc) (h__law_told:Has P w K mg base 10 "_law_told" ["_law_wheel_here"] (zdH K)) (F:Fun K "law" "law" zdg f fd):FnOk P w K mg base CX0 11 f fd ["_law_script"] (zdx K):=by
  refine F.ok yby (fun vs H Q E h=>?_) (fun cdv A outer s H vs Q E hr h=>?_)
  · obtain ⟨a,ns,rfl,_⟩:=h;rfl
  obtain ⟨a,ns,rfl,ha,q⟩:=h
  refine ⟨_,(yaa (@yaf _ _ 1 _ _ _ _ yby.nd rfl (Or.inl rfl) (yad h__law_purse hr (by decide) rfl (zaa (pv 0) yab ⋯) (by decide) ⋯ ⋯) ⋯ (by trivial)) (yaa (@zbd _ _ _ _ _ _ (yad h__law_wheel hr (by decide) rfl (zaa (pv 1) (zaa yac yab ⋯) ⋯) (by decide) ⋯ ⋯) (@ybe _ _ _ _ _ _ rfl (zah (@zaf _ _ 2 _ yby.nd rfl (Or.inl rfl) (by trivial)) (zah (@zaf _ _ 3 _ yby.nd rfl (Or.inl rfl) (by trivial)) zaL ⋯) ⋯) ⋯ ⋯) ⋯ ⋯ ⋯) (yaa (@ycp _ _ 4 5 _ _ _ _ _ _ _ _ _ _ _ rfl yby.nd rfl rfl (by decide) rfl rfl (zaa (zan yak rfl (B "len" (by decide)) PySem.boot_len (zaa (yad h__law_roots hr (by decide) rfl (zaa (pv 2) (zaa (zao yau (pv 3) yac (fun _ _=>rfl)) yab ⋯) ⋯) (by decide) ⋯ ⋯) yab ⋯) (by decide) (by decide) ⋯ ⋯) (zaa (yad h__law_raised hr (by decide) rfl (zaa (@ya3 _ _ _ _ _ _ (yb8 hr) (pv 2) yaK (fun _ _=>rfl)) (zaa (zao yau (pv 3) yac (fun _ _=>rfl)) yab ⋯) ⋯) (by decide) ⋯ ⋯) yab ⋯) ⋯) rfl ⋯) (yaa (@zfr _ _ 6 7 8 _ _ _ _ _ _ _ _ _ _ _ _ _ _ rfl yby.nd rfl rfl rfl (by decide) rfl rfl rfl (zaa (yad h__law_pick hr (by decide) rfl (zaa (pv 1) (zaa (pv 4) yab ⋯) ⋯) (by decide) ⋯ ⋯) (zaa (@zaK _ _ _ _ yab) (zaa yac yab ⋯) ⋯) ⋯) rfl ⋯) (yaa (@zaU _ _ _ _ _ _ _ _ PassesOwn.never rfl (@ya1 _ _ _ _ _ _ rfl (B "range" (by decide)) (zaa (yag yas (pv 4) yac) yab ⋯) ⋯) (@zaf _ _ 9 _ yby.nd rfl (Or.inl rfl) (by trivial)) (yaa (@yaf _ _ 10 _ _ _ _ yby.nd rfl (Or.inl rfl) (yad h__law_raised hr (by decide) rfl (zaa (pv 5) (zaa (yag yaU (pv 4) (zan yak rfl (B "len" (by decide)) PySem.boot_len (zaa (pv 7) yab ⋯) (by decide) (by decide) ⋯ ⋯)) yab ⋯) ⋯) (by decide) ⋯ ⋯) ⋯ (by trivial)) (yaa (@zbe _ _ _ _ _ _ _ _ (@PW.pt _ _ _ (@zfk _ _ _ _ _ _ _ (@zaj _ _ _ _ _ _ _ _ zbJ (pv 10) yac (zam _)) (@zdt _ _ _ _ (@zaj _ _ _ _ _ _ _ _ zgA (pv 8) yac (zam _))))) (yaa (@yaf _ _ 8 _ _ _ _ yby.nd rfl (Or.inl rfl) (yag yas (pv 8) (zat ycq rfl (B "int" (by decide)) zbM (zaa (@ydR _ _ _ _ _ _ _ _ ygP (pv 10) yac (zam _)) yab ⋯) (by decide) (by decide) ⋯ ⋯)) ⋯ (by trivial)) (yaa (@yaf _ _ 11 _ _ _ _ yby.nd rfl (Or.inl rfl) (yad h__law_told hr (by decide) rfl (zaa (yag ycB (@zcf _ _ _ _ _ _ _ _ _ _ yeK (pv 3) zde (@ydb _ _ _ yac)) (@yaQ _ _ _ _ _ (zaa (zat yav rfl (B "tuple" (by decide)) zav (zaa (pv 7) yab ⋯) (by decide) (by decide) ⋯ ⋯) yab ⋯))) yab ⋯) (by decide) ⋯ ⋯) ⋯ (by trivial)) (zae (@zbe _ _ _ _ _ _ _ _ (@zaj _ _ _ _ _ _ _ _ zd5 (pv 11) (zao yan (@zaK _ _ _ _ (zaa (pv 10) (zaa yaK yab ⋯) ⋯)) (zat ycq rfl (B "int" (by decide)) zbM (zaa (@ydR _ _ _ _ _ _ _ _ zbJ (pv 10) yac (zam _)) yab ⋯) (by decide) (by decide) ⋯ ⋯) (fun _ _=>rfl)) (zam _)) (zae (@yal _ _ _ _ zf2)) zaw)))) zaw) (zae (@yaf _ _ 7 _ _ _ _ yby.nd rfl (Or.inl rfl) (@zcG _ _ _ _ _ _ _ rfl rfl (B "sorted" (by decide)) rfl (B "set" (by decide)) (yag yeQ (pv 7) (yad h__law_ring hr (by decide) rfl (zaa (yag yas (pv 6) (pv 9)) (zaa (pv 4) (zaa (pv 5) yab ⋯) ⋯) ⋯) (by decide) ⋯ ⋯)) ⋯ ⋯) ⋯ (by trivial))))) (by intro _;rfl)) (zae (@yal _ _ _ _ zf2))))))),?_⟩
  refine ⟨_,rfl,a,ns,rfl,ha,fun pu g H1 n1 n2 s1 hP=>?_⟩
  dsimp only [zau]
  refine ⟨_,rfl,pu,g,15,rfl,hP,by omega,fun r tb fa pa la wh mk p m t b few root n marks H4 er T ap hW nwh nmk nr W hn hP4 sx4=>?_⟩
  refine ⟨r,_,rfl,SqT.of er,rfl,_,_,rfl,_,_,rfl,rfl,?_⟩
  have G:=T.good
  have hp:=G.hp
  have hm:=G.hm
  have hQ:=G.hq
  have hnq:=W.nq
  have hn0:=W.ord.pos
  have hm6:=m_le hp hQ
  have hp2:=p_le hp hm hQ
  have hfm:few≤m:=Nat.le_of_dvd (by omega) (Nat.dvd_of_mod_eq_zero W.fewm)
  have hf1:=W.few1
  have he1:1≤m/few:=Nat.div_pos hfm (by omega)
  have he2:m/few≤6:=Nat.le_trans (Nat.div_le_self _ _) hm6
  have hqq:p^few≤64:=Nat.le_trans (Nat.pow_le_pow_right (by omega) hfm) hQ
  refine ⟨_,rfl,_,rfl,wh,_,_,Vn root,rfl,rfl,SqT.of hW.w,rfl,tb,fa,pa,la,p,m,t,b,root,rfl,T,W.r0,W.rq,fun n' rr H5 o' _ s5 nrr err=>?_⟩
  cases o'.uniq W.ord
  have T5:=T.same s5
  have hW5:=hW.same s5
  have hP5:=hP4.same s5
  refine ⟨rr,_,rfl,.inl (SqL.of err),?_⟩
  refine ⟨_,rfl,tb,_,rfl,T5.get yhd,_,rfl,wh,_,_,Vn few,rfl,rfl,SqT.of hW5.w,rfl,p,few,rfl,hp2,by omega,?_⟩
  refine ⟨_,_,rfl,?_⟩
  have en:(((Pwn p m t root n).map Vn).length:Int)=(n:Int):=by rw [List.length_map,zc6]
  rw [en]
  refine ⟨_,rfl,_,rfl,pu,g,n,rfl,hP5,hn0,by omega,fun at_ H6 hat hP6 sx6=>?_⟩
  have T6:=T5.x ap sx6
  have hW6:=hW5.x nwh nmk sx6
  refine ⟨szl 0,fun ml hml=>?_⟩
  have s7:=zac hml (.lst [])
  have T7:=T6.same s7
  have hW7:=hW6.same s7
  refine ⟨_,_,_,rfl,?_⟩
  have e7:upd H6 ml (.lst []) ml=some (.lst (([]:List Nat).map Vn)):=zab
  generalize upd H6 ml (.lst [])=H7 at s7 T7 hW7 e7 ⊢
  refine ⟨_,rfl,_,_,rfl,rfl,((n:Int)+1),rfl,by omega,by omega,?_⟩
  refine za4 (ya9 (lo:=0) (n:=((n:Int)+1).toNat)) (fun k σ H'=>Same H7 H'∧∃(ml:Addr) (ms:List Nat) (asked:Nat) (s9 s10 s11:Option V),H' ml=some (.lst (ms.map Vn))∧ms.Pairwise (· < ·)∧(∀x∈ms,x<n)∧σ=[some (.ref a),some (.ref pu),some (.ref tb),some (.ref wh),some (Vn n),some (Vn (p^few)),some (Vn at_),some (.ref ml),some (Vn asked),s9,s10,s11]) ⟨Same.refl _,ml,[],0,none,none,none,e7,.nil,(fun x hx=>absurd hx (List.not_mem_nil)),rfl⟩ (fun _ _ _ _ _=>trivial) ?_ ?_
  · rintro k x σ H8o H8 hk ⟨s8,ml,ms,asked,s9,s10,s11,e8,hasc,hlt,rfl⟩ ⟨rfl,rfl⟩
    have hml:=ygz hasc hlt
    rw [show V.int (0+(k:Int))=Vn k from ycu (Int.zero_add _)]
    dsimp only [zau]
    refine ⟨_,rfl,_,rfl,_,rfl,ml,_,rfl,.inl (SqL.of e8),_,_,rfl,rfl,p^few,n-ms.length,?_,hqq,by omega,?_⟩
    · rw [List.length_map]
      show [Vn (p^few),V.int ((n:Int)-(ms.length:Int))]=[Vn (p^few),Vn (n-ms.length)]
      rw [show (n:Int)-(ms.length:Int)=((n-ms.length:Nat):Int) by omega]
    dsimp only [zau]
    have hW8:=hW7.same s8
    have T8:=T7.same s8
    change tSeq (tIfS _ _ _) _ _ _ _
    refine yba (fun σ H'=>Same H8 H'∧∃(asked':Nat) (v11:Option V),σ=[some (.ref a),some (.ref pu),some (.ref tb),some (.ref wh),some (Vn n),some (Vn (p^few)),some (Vn at_),some (.ref ml),some (Vn asked'),some (Vn k),some (Vn ((p^few)^(n-ms.length))),v11]) ?_ ?_
    · rintro σ H9 ⟨s9',asked',v11,rfl⟩
      refine ⟨_,rfl,_,rfl,_,rfl,_,_,rfl,rfl,_,rfl,_,rfl,at_+k,n,p^few,m/few,?_,by omega,by omega,hqq,he1,he2,W.ord.round G W.r0 W.rq W.fewm hf1,fun r rs HN sN nr er h1 h2 h3 h4 _ _ _=>?_⟩
      · show [V.int ((at_:Int)+(k:Int)),Vn n,Vn (p^few)]=[Vn (at_+k),Vn n,Vn (p^few)]
        rfl
      refine ⟨ml,r,ms.map Vn,_,rfl,rfl,sN _ _ (s9' _ _ e8),er,by rw [List.length_map,List.length_map];exact szl _ (by omega),fun l hl=>?_⟩
      rw [←List.map_append]
      have sO:=zac hl (.lst ((ms++rs).map Vn))
      have hmm:∀x∈ms++rs,x<n:=fun x hx=>(List.mem_append.mp hx).elim (hlt x) (h3 x)
      refine ⟨l,(ms++rs).map (fun n:Nat=>(n:Int)),rfl,SqL.of (by rw [mapI];exact zab),by rw [List.length_map,List.length_append];omega,?_,?_⟩
      · intro ks hks hsub
        have:=zbQ (τ:=(List.range n).map fun i:Nat=>(i:Int)) hks fun k hk=>by
          obtain ⟨x,hx,rfl⟩:=List.mem_map.mp (hsub k hk)
          exact List.mem_map.mpr ⟨x,List.mem_range.mpr (hmm x hx),rfl⟩
        rw [List.length_map,List.length_range] at this
        omega
      · intro l2 ns' hl2 hasc2 hmem
        obtain ⟨mk2,hmk⟩:∃mk2:List Nat,ns'=mk2.map fun x:Nat=>(x:Int):=by
          refine ⟨ns'.map Int.toNat,?_⟩
          rw [List.map_map]
          conv=>lhs;rw [←List.map_id ns']
          refine List.map_congr_left fun k hk=>?_
          obtain ⟨x,_,rfl⟩:=List.mem_map.mp ((hmem k).mp hk)
          rfl
        subst hmk
        have hm2:∀x∈mk2,x<n:=fun x hx=>by
          obtain ⟨y,hy,e⟩:=List.mem_map.mp ((hmem (x:Int)).mp (List.mem_map_of_mem hx))
          rw [←Int.ofNat.inj e];exact hmm y hy
        have hasc3:mk2.Pairwise (· < ·):=by
          rw [List.pairwise_map] at hasc2
          exact hasc2.imp fun h=>by omega
        rw [mapI]
        have sP:=zac hl2 (.lst (mk2.map Vn))
        exact ⟨(((s8.trans s9').trans sN).trans sO).trans sP,l2,mk2,asked',_,_,_,zab,hasc3,hm2,rfl⟩
    · intro D' r1 r2 r3 hD'
      have done:∀H',Same H8 H'→∀(v11:Option V) (asked':Nat),D'.nx [some (.ref a),some (.ref pu),some (.ref tb),some (.ref wh),some (Vn n),some (Vn (p^few)),some (Vn at_),some (.ref ml),some (Vn asked'),some (Vn k),some (Vn ((p^few)^(n-ms.length))),v11] H':=fun H' s' v11 asked'=>hD' _ _ ⟨s',asked',v11,rfl⟩
      have hml2:ms.length≤n:=hml
      generalize hM:(p^few)^(n-ms.length)=M at done ⊢
      refine zgi ⟨decide ((4096:Int)<(M:Int)),fun Q q=>⟨_,rfl,_,_,rfl,rfl,_,rfl,q⟩⟩ ⟨decide ((asked:Int)<3),fun Q q=>⟨_,rfl,_,_,rfl,rfl,_,rfl,q⟩⟩ ?_ (done H8 (Same.refl _) _ _)
      refine ⟨_,rfl,_,rfl,_,_,rfl,rfl,.inr ⟨decide ((M:Int)≤4096),rfl,?_⟩⟩
      obtain ⟨asked',hasked⟩:∃k:Nat,(asked:Int)+(if decide ((M:Int)≤4096)=true then 1 else 0)=(k:Int):=by
        split
        · exact ⟨asked+1,rfl⟩
        · exact ⟨asked,by omega⟩
      refine ⟨_,_,rfl,rfl,?_⟩
      dsimp only [zau]
      rw [hasked]
      refine ⟨_,rfl,(3:Nat),rfl,zg7 (SqT.of hW8.w) fun w3 HA sA eA=>?_⟩
      refine ⟨_,rfl,ml,_,rfl,.inl ⟨SqL.of (sA _ _ e8),fun mk2 hmk2=>?_⟩⟩
      have sB:=zac hmk2 (.tup (ms.map Vn))
      refine ⟨szl 1,fun t1 ht1=>?_⟩
      have sC:=zac ht1 (.tup [.ref mk2])
      refine ygF (Same.tup (sB.trans sC) eA) (SqT.of zab) (show 3+1≤1000 by omega) (fun e=>nomatch e) (fun e=>nomatch e) fun wh2 hwh2=>?_
      have sD:=zac hwh2 (.tup [.ref fa,Vn few,Vn root,.ref mk2])
      have sE:=(sA.trans sB).trans (sC.trans sD)
      have hW2:WhAt _ wh2 fa mk2 few root ms:=⟨zab,sD _ _ (sC _ _ zab)⟩
      have TE:=T8.same sE
      refine ⟨wh2,fa,mk2,p,m,t,few,root,n,n-ms.length,ms,rfl,⟨hW2,SqT.of TE.f,G,W.r0,W.rq,W.ord,by omega,by omega,W.fewm,hf1,hqq⟩,fun big HF sF=>?_,fun sm HF sF=>?_⟩
      · have hb:(4096:Int)<(M:Int):=by rw [hM] at big;omega
        dsimp only [zau]
        refine ⟨_,rfl,_,rfl,szl 2,fun l2 hl2=>?_⟩
        have sG:=zac hl2 (.lst [Vn M,.str "many"])
        refine ⟨_,rfl,_,_,rfl,rfl,.inr ⟨decide ((4096:Int)<(M:Int)),rfl,?_⟩⟩
        rw [decide_eq_true hb]
        refine ⟨l2,_,1,.str "many",rfl,rfl,SqL.of zab,rfl,rfl,_,rfl,?_⟩
        refine ite2 (fun c=>absurd c (by decide)) (fun _=>?_)
        exact done _ ((sE.trans sF).trans sG) _ _
      · have hb:¬ (4096:Int)<(M:Int):=by rw [hM] at sm;omega
        rw [hM]
        dsimp only [zau]
        refine ⟨_,rfl,_,rfl,szl 2,fun l2 hl2=>?_⟩
        have sG:=zac hl2 (.lst [Vn M,.str "many"])
        refine ⟨_,rfl,_,_,rfl,rfl,.inr ⟨decide ((4096:Int)<(M:Int)),rfl,?_⟩⟩
        rw [decide_eq_false hb]
        refine ⟨l2,_,0,Vn M,rfl,rfl,SqL.of zab,rfl,rfl,_,rfl,?_⟩
        refine ite2 (fun c=>?_) (fun _=>?_)
        · rw [decide_eq_true (rfl:Vn M=Vn M)] at c
          exact absurd c (by decide)
        exact done _ ((sE.trans sF).trans sG) _ _
  · rintro σ H8 ⟨_,_⟩
    exact q _
end
end My
end
section
-- text: Z22
namespace My
open PySem L2 Dg
theorem zfT {K:PySem.W.Frag} {H:Hp} {a:Addr} {ns:List Int} {E:XK} (hl:ns.length≤63) (hS:SqL K H a (ns.map V.int)):zdx K [.ref a] H (fun v _=>v = .bl true) E:=⟨a,ns,rfl,hS,fun _=>rfl⟩
theorem all_mk {l:PySem.W.OpenLaw} {w:World} {K:PySem.W.Frag} {h:Heap} {mg:Str→Option Value} {fa:Addr} (X:K.In h) (G:h.Ns mainGlobals mg) (hfa:mg "law"=some (.ref fa))
    {f1:Addr} {od1 an1:Option Addr} {sl1:Array (Option Value)} {oc1 kV1 dc1 pm1 cd1 ct1:Value} {f2:Addr} {od2 an2:Option Addr} {sl2:Array (Option Value)} {oc2 kV2 dc2 pm2 cd2 ct2:Value} {f3:Addr} {od3 an3:Option Addr} {sl3:Array (Option Value)} {oc3 kV3 dc3 pm3 cd3 ct3:Value} {f4:Addr} {od4 an4:Option Addr} {sl4:Array (Option Value)} {oc4 kV4 dc4 pm4 cd4 ct4:Value} {f5:Addr} {od5 an5:Option Addr} {sl5:Array (Option Value)} {oc5 kV5 dc5 pm5 cd5 ct5:Value} {f6:Addr} {od6 an6:Option Addr} {sl6:Array (Option Value)} {oc6 kV6 dc6 pm6 cd6 ct6:Value} {f7:Addr} {od7 an7:Option Addr} {sl7:Array (Option Value)} {oc7 kV7 dc7 pm7 cd7 ct7:Value} {f8:Addr} {od8 an8:Option Addr} {sl8:Array (Option Value)} {oc8 kV8 dc8 pm8 cd8 ct8:Value} {f9:Addr} {od9 an9:Option Addr} {sl9:Array (Option Value)} {oc9 kV9 dc9 pm9 cd9 ct9:Value} {f10:Addr} {od10 an10:Option Addr} {sl10:Array (Option Value)} {oc10 kV10 dc10 pm10 cd10 ct10:Value} {f11:Addr} {od11 an11:Option Addr} {sl11:Array (Option Value)} {oc11 kV11 dc11 pm11 cd11 ct11:Value} {f12:Addr} {od12 an12:Option Addr} {sl12:Array (Option Value)} {oc12 kV12 dc12 pm12 cd12 ct12:Value} {f13:Addr} {od13 an13:Option Addr} {sl13:Array (Option Value)} {oc13 kV13 dc13 pm13 cd13 ct13:Value} {f14:Addr} {od14 an14:Option Addr} {sl14:Array (Option Value)} {oc14 kV14 dc14 pm14 cd14 ct14:Value} {f15:Addr} {od15 an15:Option Addr} {sl15:Array (Option Value)} {oc15 kV15 dc15 pm15 cd15 ct15:Value} {f16:Addr} {od16 an16:Option Addr} {sl16:Array (Option Value)} {oc16 kV16 dc16 pm16 cd16 ct16:Value} {f17:Addr} {od17 an17:Option Addr} {sl17:Array (Option Value)} {oc17 kV17 dc17 pm17 cd17 ct17:Value} {f18:Addr} {od18 an18:Option Addr} {sl18:Array (Option Value)} {oc18 kV18 dc18 pm18 cd18 ct18:Value} {f19:Addr} {od19 an19:Option Addr} {sl19:Array (Option Value)} {oc19 kV19 dc19 pm19 cd19 ct19:Value} {f20:Addr} {od20 an20:Option Addr} {sl20:Array (Option Value)} {oc20 kV20 dc20 pm20 cd20 ct20:Value} {f21:Addr} {od21 an21:Option Addr} {sl21:Array (Option Value)} {oc21 kV21 dc21 pm21 cd21 ct21:Value} {f22:Addr} {od22 an22:Option Addr} {sl22:Array (Option Value)} {oc22 kV22 dc22 pm22 cd22 ct22:Value} {f23:Addr} {od23 an23:Option Addr} {sl23:Array (Option Value)} {oc23 kV23 dc23 pm23 cd23 ct23:Value} {f24:Addr} {od24 an24:Option Addr} {sl24:Array (Option Value)} {oc24 kV24 dc24 pm24 cd24 ct24:Value} {f25:Addr} {od25 an25:Option Addr} {sl25:Array (Option Value)} {oc25 kV25 dc25 pm25 cd25 ct25:Value} {f26:Addr} {od26 an26:Option Addr} {sl26:Array (Option Value)} {oc26 kV26 dc26 pm26 cd26 ct26:Value} {f27:Addr} {od27 an27:Option Addr} {sl27:Array (Option Value)} {oc27 kV27 dc27 pm27 cd27 ct27:Value} {f28:Addr} {od28 an28:Option Addr} {sl28:Array (Option Value)} {oc28 kV28 dc28 pm28 cd28 ct28:Value} {f29:Addr} {od29 an29:Option Addr} {sl29:Array (Option Value)} {oc29 kV29 dc29 pm29 cd29 ct29:Value} {f30:Addr} {od30 an30:Option Addr} {sl30:Array (Option Value)} {oc30 kV30 dc30 pm30 cd30 ct30:Value} {f31:Addr} {od31 an31:Option Addr} {sl31:Array (Option Value)} {oc31 kV31 dc31 pm31 cd31 ct31:Value} {f32:Addr} {od32 an32:Option Addr} {sl32:Array (Option Value)} {oc32 kV32 dc32 pm32 cd32 ct32:Value} {f33:Addr} {od33 an33:Option Addr} {sl33:Array (Option Value)} {oc33 kV33 dc33 pm33 cd33 ct33:Value} {f34:Addr} {od34 an34:Option Addr} {sl34:Array (Option Value)} {oc34 kV34 dc34 pm34 cd34 ct34:Value} {f35:Addr} {od35 an35:Option Addr} {sl35:Array (Option Value)} {oc35 kV35 dc35 pm35 cd35 ct35:Value} {f36:Addr} {od36 an36:Option Addr} {sl36:Array (Option Value)} {oc36 kV36 dc36 pm36 cd36 ct36:Value} {f37:Addr} {od37 an37:Option Addr} {sl37:Array (Option Value)} {oc37 kV37 dc37 pm37 cd37 ct37:Value} {f38:Addr} {od38 an38:Option Addr} {sl38:Array (Option Value)} {oc38 kV38 dc38 pm38 cd38 ct38:Value} {f39:Addr} {od39 an39:Option Addr} {sl39:Array (Option Value)} {oc39 kV39 dc39 pm39 cd39 ct39:Value} {f40:Addr} {od40 an40:Option Addr} {sl40:Array (Option Value)} {oc40 kV40 dc40 pm40 cd40 ct40:Value} {f41:Addr} {od41 an41:Option Addr} {sl41:Array (Option Value)} {oc41 kV41 dc41 pm41 cd41 ct41:Value}
    (a1:PySem.W.nsIn K mainGlobals "number_power"=some (some (.ref f1))) (l1:K.lookup f1=some ⟨oc1,od1,.func (PySem.W.fnOf "number_power" "number_power" (yai yay) (yah yay) (zad yay) .none kV1 dc1 pm1 an1 cd1 ct1),sl1⟩) (c1:PySem.W.codeIn K cd1 "number_power"=true) (k1:PySem.W.keepIn K (.ref f1)=true)
    (a2:PySem.W.nsIn K mainGlobals "many_things"=some (some (.ref f2))) (l2:K.lookup f2=some ⟨oc2,od2,.func (PySem.W.fnOf "many_things" "many_things" (yai zaG) (yah zaG) (zad zaG) .none kV2 dc2 pm2 an2 cd2 ct2),sl2⟩) (c2:PySem.W.codeIn K cd2 "many_things"=true) (k2:PySem.W.keepIn K (.ref f2)=true)
    (a3:PySem.W.nsIn K mainGlobals "plus"=some (some (.ref f3))) (l3:K.lookup f3=some ⟨oc3,od3,.func (PySem.W.fnOf "plus" "plus" (yai zcS) (yah zcS) (zad zcS) .none kV3 dc3 pm3 an3 cd3 ct3),sl3⟩) (c3:PySem.W.codeIn K cd3 "plus"=true) (k3:PySem.W.keepIn K (.ref f3)=true)
    (a4:PySem.W.nsIn K mainGlobals "digit_times"=some (some (.ref f4))) (l4:K.lookup f4=some ⟨oc4,od4,.func (PySem.W.fnOf "digit_times" "digit_times" (yai zaH) (yah zaH) (zad zaH) .none kV4 dc4 pm4 an4 cd4 ct4),sl4⟩) (c4:PySem.W.codeIn K cd4 "digit_times"=true) (k4:PySem.W.keepIn K (.ref f4)=true)
    (a5:PySem.W.nsIn K mainGlobals "minus"=some (some (.ref f5))) (l5:K.lookup f5=some ⟨oc5,od5,.func (PySem.W.fnOf "minus" "minus" (yai ybY) (yah ybY) (zad ybY) .none kV5 dc5 pm5 an5 cd5 ct5),sl5⟩) (c5:PySem.W.codeIn K cd5 "minus"=true) (k5:PySem.W.keepIn K (.ref f5)=true)
    (a6:PySem.W.nsIn K mainGlobals "lifted"=some (some (.ref f6))) (l6:K.lookup f6=some ⟨oc6,od6,.func (PySem.W.fnOf "lifted" "lifted" (yai ybC) (yah ybC) (zad ybC) .none kV6 dc6 pm6 an6 cd6 ct6),sl6⟩) (c6:PySem.W.codeIn K cd6 "lifted"=true) (k6:PySem.W.keepIn K (.ref f6)=true)
    (a7:PySem.W.nsIn K mainGlobals "times"=some (some (.ref f7))) (l7:K.lookup f7=some ⟨oc7,od7,.func (PySem.W.fnOf "times" "times" (yai zb3) (yah zb3) (zad zb3) .none kV7 dc7 pm7 an7 cd7 ct7),sl7⟩) (c7:PySem.W.codeIn K cd7 "times"=true) (k7:PySem.W.keepIn K (.ref f7)=true)
    (a8:PySem.W.nsIn K mainGlobals "times_itself"=some (some (.ref f8))) (l8:K.lookup f8=some ⟨oc8,od8,.func (PySem.W.fnOf "times_itself" "times_itself" (yai yaz) (yah yaz) (zad yaz) .none kV8 dc8 pm8 an8 cd8 ct8),sl8⟩) (c8:PySem.W.codeIn K cd8 "times_itself"=true) (k8:PySem.W.keepIn K (.ref f8)=true)
    (a9:PySem.W.nsIn K mainGlobals "over"=some (some (.ref f9))) (l9:K.lookup f9=some ⟨oc9,od9,.func (PySem.W.fnOf "over" "over" (yai zcJ) (yah zcJ) (zad zcJ) .none kV9 dc9 pm9 an9 cd9 ct9),sl9⟩) (c9:PySem.W.codeIn K cd9 "over"=true) (k9:PySem.W.keepIn K (.ref f9)=true)
    (a10:PySem.W.nsIn K mainGlobals "power"=some (some (.ref f10))) (l10:K.lookup f10=some ⟨oc10,od10,.func (PySem.W.fnOf "power" "power" (yai ybZ) (yah ybZ) (zad ybZ) .none kV10 dc10 pm10 an10 cd10 ct10),sl10⟩) (c10:PySem.W.codeIn K cd10 "power"=true) (k10:PySem.W.keepIn K (.ref f10)=true)
    (a11:PySem.W.nsIn K mainGlobals "round_of"=some (some (.ref f11))) (l11:K.lookup f11=some ⟨oc11,od11,.func (PySem.W.fnOf "round_of" "round_of" (yai ya7) (yah ya7) (zad ya7) .none kV11 dc11 pm11 an11 cd11 ct11),sl11⟩) (c11:PySem.W.codeIn K cd11 "round_of"=true) (k11:PySem.W.keepIn K (.ref f11)=true)
    (a12:PySem.W.nsIn K mainGlobals "letters"=some (some (.ref f12))) (l12:K.lookup f12=some ⟨oc12,od12,.func (PySem.W.fnOf "letters" "letters" (yai ybb) (yah ybb) (zad ybb) .none kV12 dc12 pm12 an12 cd12 ct12),sl12⟩) (c12:PySem.W.codeIn K cd12 "letters"=true) (k12:PySem.W.keepIn K (.ref f12)=true)
    (a13:PySem.W.nsIn K mainGlobals "word_sum"=some (some (.ref f13))) (l13:K.lookup f13=some ⟨oc13,od13,.func (PySem.W.fnOf "word_sum" "word_sum" (yai zaX) (yah zaX) (zad zaX) .none kV13 dc13 pm13 an13 cd13 ct13),sl13⟩) (c13:PySem.W.codeIn K cd13 "word_sum"=true) (k13:PySem.W.keepIn K (.ref f13)=true)
    (a14:PySem.W.nsIn K mainGlobals "word_times"=some (some (.ref f14))) (l14:K.lookup f14=some ⟨oc14,od14,.func (PySem.W.fnOf "word_times" "word_times" (yai zaD) (yah zaD) (zad zaD) .none kV14 dc14 pm14 an14 cd14 ct14),sl14⟩) (c14:PySem.W.codeIn K cd14 "word_times"=true) (k14:PySem.W.keepIn K (.ref f14)=true)
    (a15:PySem.W.nsIn K mainGlobals "trimmed"=some (some (.ref f15))) (l15:K.lookup f15=some ⟨oc15,od15,.func (PySem.W.fnOf "trimmed" "trimmed" (yai zbn) (yah zbn) (zad zbn) .none kV15 dc15 pm15 an15 cd15 ct15),sl15⟩) (c15:PySem.W.codeIn K cd15 "trimmed"=true) (k15:PySem.W.keepIn K (.ref f15)=true)
    (a16:PySem.W.nsIn K mainGlobals "widened"=some (some (.ref f16))) (l16:K.lookup f16=some ⟨oc16,od16,.func (PySem.W.fnOf "widened" "widened" (yai ybk) (yah ybk) (zad ybk) .none kV16 dc16 pm16 an16 cd16 ct16),sl16⟩) (c16:PySem.W.codeIn K cd16 "widened"=true) (k16:PySem.W.keepIn K (.ref f16)=true)
    (a17:PySem.W.nsIn K mainGlobals "row_times"=some (some (.ref f17))) (l17:K.lookup f17=some ⟨oc17,od17,.func (PySem.W.fnOf "row_times" "row_times" (yai yaX) (yah yaX) (zad yaX) .none kV17 dc17 pm17 an17 cd17 ct17),sl17⟩) (c17:PySem.W.codeIn K cd17 "row_times"=true) (k17:PySem.W.keepIn K (.ref f17)=true)
    (a18:PySem.W.nsIn K mainGlobals "row_over"=some (some (.ref f18))) (l18:K.lookup f18=some ⟨oc18,od18,.func (PySem.W.fnOf "row_over" "row_over" (yai ya8) (yah ya8) (zad ya8) .none kV18 dc18 pm18 an18 cd18 ct18),sl18⟩) (c18:PySem.W.codeIn K cd18 "row_over"=true) (k18:PySem.W.keepIn K (.ref f18)=true)
    (a19:PySem.W.nsIn K mainGlobals "length"=some (some (.ref f19))) (l19:K.lookup f19=some ⟨oc19,od19,.func (PySem.W.fnOf "length" "length" (yai ybF) (yah ybF) (zad ybF) .none kV19 dc19 pm19 an19 cd19 ct19),sl19⟩) (c19:PySem.W.codeIn K cd19 "length"=true) (k19:PySem.W.keepIn K (.ref f19)=true)
    (a20:PySem.W.nsIn K mainGlobals "row_of_roots"=some (some (.ref f20))) (l20:K.lookup f20=some ⟨oc20,od20,.func (PySem.W.fnOf "row_of_roots" "row_of_roots" (yai zaA) (yah zaA) (zad zaA) .none kV20 dc20 pm20 an20 cd20 ct20),sl20⟩) (c20:PySem.W.codeIn K cd20 "row_of_roots"=true) (k20:PySem.W.keepIn K (.ref f20)=true)
    (a21:PySem.W.nsIn K mainGlobals "maker"=some (some (.ref f21))) (l21:K.lookup f21=some ⟨oc21,od21,.func (PySem.W.fnOf "maker" "maker" (yai yb3) (yah yb3) (zad yb3) .none kV21 dc21 pm21 an21 cd21 ct21),sl21⟩) (c21:PySem.W.codeIn K cd21 "maker"=true) (k21:PySem.W.keepIn K (.ref f21)=true)
    (a22:PySem.W.nsIn K mainGlobals "free"=some (some (.ref f22))) (l22:K.lookup f22=some ⟨oc22,od22,.func (PySem.W.fnOf "free" "free" (yai ycN) (yah ycN) (zad ycN) .none kV22 dc22 pm22 an22 cd22 ct22),sl22⟩) (c22:PySem.W.codeIn K cd22 "free"=true) (k22:PySem.W.keepIn K (.ref f22)=true)
    (a23:PySem.W.nsIn K mainGlobals "how_many"=some (some (.ref f23))) (l23:K.lookup f23=some ⟨oc23,od23,.func (PySem.W.fnOf "how_many" "how_many" (yai za9) (yah za9) (zad za9) .none kV23 dc23 pm23 an23 cd23 ct23),sl23⟩) (c23:PySem.W.codeIn K cd23 "how_many"=true) (k23:PySem.W.keepIn K (.ref f23)=true)
    (a24:PySem.W.nsIn K mainGlobals "made"=some (some (.ref f24))) (l24:K.lookup f24=some ⟨oc24,od24,.func (PySem.W.fnOf "made" "made" (yai yci) (yah yci) (zad yci) .none kV24 dc24 pm24 an24 cd24 ct24),sl24⟩) (c24:PySem.W.codeIn K cd24 "made"=true) (k24:PySem.W.keepIn K (.ref f24)=true)
    (a25:PySem.W.nsIn K mainGlobals "words"=some (some (.ref f25))) (l25:K.lookup f25=some ⟨oc25,od25,.func (PySem.W.fnOf "words" "words" (yai zbw) (yah zbw) (zad zbw) .none kV25 dc25 pm25 an25 cd25 ct25),sl25⟩) (c25:PySem.W.codeIn K cd25 "words"=true) (k25:PySem.W.keepIn K (.ref f25)=true)
    (a26:PySem.W.nsIn K mainGlobals "_law_purse"=some (some (.ref f26))) (l26:K.lookup f26=some ⟨oc26,od26,.func (PySem.W.fnOf "_law_purse" "_law_purse" (yai yaP) (yah yaP) (zad yaP) .none kV26 dc26 pm26 an26 cd26 ct26),sl26⟩) (c26:PySem.W.codeIn K cd26 "_law_purse"=true) (k26:PySem.W.keepIn K (.ref f26)=true)
    (a27:PySem.W.nsIn K mainGlobals "_law_pick"=some (some (.ref f27))) (l27:K.lookup f27=some ⟨oc27,od27,.func (PySem.W.fnOf "_law_pick" "_law_pick" (yai yaW) (yah yaW) (zad yaW) .none kV27 dc27 pm27 an27 cd27 ct27),sl27⟩) (c27:PySem.W.codeIn K cd27 "_law_pick"=true) (k27:PySem.W.keepIn K (.ref f27)=true)
    (a28:PySem.W.nsIn K mainGlobals "_law_raised"=some (some (.ref f28))) (l28:K.lookup f28=some ⟨oc28,od28,.func (PySem.W.fnOf "_law_raised" "_law_raised" (yai yaG) (yah yaG) (zad yaG) .none kV28 dc28 pm28 an28 cd28 ct28),sl28⟩) (c28:PySem.W.codeIn K cd28 "_law_raised"=true) (k28:PySem.W.keepIn K (.ref f28)=true)
    (a29:PySem.W.nsIn K mainGlobals "_law_digits"=some (some (.ref f29))) (l29:K.lookup f29=some ⟨oc29,od29,.func (PySem.W.fnOf "_law_digits" "_law_digits" (yai yaI) (yah yaI) (zad yaI) .none kV29 dc29 pm29 an29 cd29 ct29),sl29⟩) (c29:PySem.W.codeIn K cd29 "_law_digits"=true) (k29:PySem.W.keepIn K (.ref f29)=true)
    (a30:PySem.W.nsIn K mainGlobals "_law_number"=some (some (.ref f30))) (l30:K.lookup f30=some ⟨oc30,od30,.func (PySem.W.fnOf "_law_number" "_law_number" (yai zaJ) (yah zaJ) (zad zaJ) .none kV30 dc30 pm30 an30 cd30 ct30),sl30⟩) (c30:PySem.W.codeIn K cd30 "_law_number"=true) (k30:PySem.W.keepIn K (.ref f30)=true)
    (a31:PySem.W.nsIn K mainGlobals "_law_product"=some (some (.ref f31))) (l31:K.lookup f31=some ⟨oc31,od31,.func (PySem.W.fnOf "_law_product" "_law_product" (yai zaz) (yah zaz) (zad zaz) .none kV31 dc31 pm31 an31 cd31 ct31),sl31⟩) (c31:PySem.W.codeIn K cd31 "_law_product"=true) (k31:PySem.W.keepIn K (.ref f31)=true)
    (a32:PySem.W.nsIn K mainGlobals "_law_is_good"=some (some (.ref f32))) (l32:K.lookup f32=some ⟨oc32,od32,.func (PySem.W.fnOf "_law_is_good" "_law_is_good" (yai yaw) (yah yaw) (zad yaw) .none kV32 dc32 pm32 an32 cd32 ct32),sl32⟩) (c32:PySem.W.codeIn K cd32 "_law_is_good"=true) (k32:PySem.W.keepIn K (.ref f32)=true)
    (a33:PySem.W.nsIn K mainGlobals "_law_field"=some (some (.ref f33))) (l33:K.lookup f33=some ⟨oc33,od33,.func (PySem.W.fnOf "_law_field" "_law_field" (yai zaF) (yah zaF) (zad zaF) .none kV33 dc33 pm33 an33 cd33 ct33),sl33⟩) (c33:PySem.W.codeIn K cd33 "_law_field"=true) (k33:PySem.W.keepIn K (.ref f33)=true)
    (a34:PySem.W.nsIn K mainGlobals "_law_table"=some (some (.ref f34))) (l34:K.lookup f34=some ⟨oc34,od34,.func (PySem.W.fnOf "_law_table" "_law_table" (yai yaE) (yah yaE) (zad yaE) .none kV34 dc34 pm34 an34 cd34 ct34),sl34⟩) (c34:PySem.W.codeIn K cd34 "_law_table"=true) (k34:PySem.W.keepIn K (.ref f34)=true)
    (a35:PySem.W.nsIn K mainGlobals "_law_times"=some (some (.ref f35))) (l35:K.lookup f35=some ⟨oc35,od35,.func (PySem.W.fnOf "_law_times" "_law_times" (yai zaP) (yah zaP) (zad zaP) .none kV35 dc35 pm35 an35 cd35 ct35),sl35⟩) (c35:PySem.W.codeIn K cd35 "_law_times"=true) (k35:PySem.W.keepIn K (.ref f35)=true)
    (a36:PySem.W.nsIn K mainGlobals "_law_round"=some (some (.ref f36))) (l36:K.lookup f36=some ⟨oc36,od36,.func (PySem.W.fnOf "_law_round" "_law_round" (yai zaS) (yah zaS) (zad zaS) .none kV36 dc36 pm36 an36 cd36 ct36),sl36⟩) (c36:PySem.W.codeIn K cd36 "_law_round"=true) (k36:PySem.W.keepIn K (.ref f36)=true)
    (a37:PySem.W.nsIn K mainGlobals "_law_ring"=some (some (.ref f37))) (l37:K.lookup f37=some ⟨oc37,od37,.func (PySem.W.fnOf "_law_ring" "_law_ring" (yai yaV) (yah yaV) (zad yaV) .none kV37 dc37 pm37 an37 cd37 ct37),sl37⟩) (c37:PySem.W.codeIn K cd37 "_law_ring"=true) (k37:PySem.W.keepIn K (.ref f37)=true)
    (a38:PySem.W.nsIn K mainGlobals "_law_wheel"=some (some (.ref f38))) (l38:K.lookup f38=some ⟨oc38,od38,.func (PySem.W.fnOf "_law_wheel" "_law_wheel" (yai zar) (yah zar) (zad zar) .none kV38 dc38 pm38 an38 cd38 ct38),sl38⟩) (c38:PySem.W.codeIn K cd38 "_law_wheel"=true) (k38:PySem.W.keepIn K (.ref f38)=true)
    (a39:PySem.W.nsIn K mainGlobals "_law_roots"=some (some (.ref f39))) (l39:K.lookup f39=some ⟨oc39,od39,.func (PySem.W.fnOf "_law_roots" "_law_roots" (yai zaQ) (yah zaQ) (zad zaQ) .none kV39 dc39 pm39 an39 cd39 ct39),sl39⟩) (c39:PySem.W.codeIn K cd39 "_law_roots"=true) (k39:PySem.W.keepIn K (.ref f39)=true)
    (a40:PySem.W.nsIn K mainGlobals "_law_told"=some (some (.ref f40))) (l40:K.lookup f40=some ⟨oc40,od40,.func (PySem.W.fnOf "_law_told" "_law_told" (yai zaV) (yah zaV) (zad zaV) .none kV40 dc40 pm40 an40 cd40 ct40),sl40⟩) (c40:PySem.W.codeIn K cd40 "_law_told"=true) (k40:PySem.W.keepIn K (.ref f40)=true)
    (a41:PySem.W.nsIn K mainGlobals "law"=some (some (.ref f41))) (l41:K.lookup f41=some ⟨oc41,od41,.func (PySem.W.fnOf "law" "law" (yai zdg) (yah zdg) (zad zdg) .none kV41 dc41 pm41 an41 cd41 ct41),sl41⟩) (c41:PySem.W.codeIn K cd41 "law"=true) (k41:PySem.W.keepIn K (.ref f41)=true)
    {Re By Nr Tm Nt Nl:Addr} (x1:PySem.W.nsIn K mainGlobals "RoundError"=some (some (.ref Re))) (x2:PySem.W.nsIn K mainGlobals "ByNought"=some (some (.ref By))) (x3:PySem.W.nsIn K mainGlobals "NoRoot"=some (some (.ref Nr))) (x4:PySem.W.nsIn K mainGlobals "TooMany"=some (some (.ref Tm))) (x5:PySem.W.nsIn K mainGlobals "NoText"=some (some (.ref Nt))) (x6:PySem.W.nsIn K mainGlobals "NoLine"=some (some (.ref Nl))) (x7:PySem.W.nsIn K mainGlobals "ValueError"=some none) (x8:ycH K Re [By,Nr,Tm,Nt,Nl]=true)
    {tk_MOST_WORDS:Tok} (kk_MOST_WORDS:PySem.W.nsIn K mainGlobals "MOST_WORDS"=some (some (.int 4096 tk_MOST_WORDS)))
    (z1:PySem.W.nsIn K mainGlobals "range"=some none) (z2:PySem.W.nsIn K mainGlobals "len"=some none) (z3:PySem.W.nsIn K mainGlobals "abs"=some none) (z4:PySem.W.nsIn K mainGlobals "min"=some none) (z5:PySem.W.nsIn K mainGlobals "max"=some none) (z6:PySem.W.nsIn K mainGlobals "all"=some none) (z7:PySem.W.nsIn K mainGlobals "any"=some none) (z8:PySem.W.nsIn K mainGlobals "isinstance"=some none) (z9:PySem.W.nsIn K mainGlobals "int"=some none) (z10:PySem.W.nsIn K mainGlobals "bool"=some none) (z11:PySem.W.nsIn K mainGlobals "tuple"=some none) (z12:PySem.W.nsIn K mainGlobals "list"=some none) (z13:PySem.W.nsIn K mainGlobals "zip"=some none) (z14:PySem.W.nsIn K mainGlobals "enumerate"=some none) (z15:PySem.W.nsIn K mainGlobals "repr"=some none) (z16:PySem.W.nsIn K mainGlobals "dict"=some none) (z17:PySem.W.nsIn K mainGlobals "reversed"=some none) (z18:PySem.W.nsIn K mainGlobals "sorted"=some none) (z19:PySem.W.nsIn K mainGlobals "sum"=some none) (z20:PySem.W.nsIn K mainGlobals "set"=some none) (z21:PySem.W.nsIn K mainGlobals "str"=some none) :
    ∃fd:FuncData,(∀(s:Shared) (v:Value),BindsTo s fd ⟨[v],[]⟩ [("_law_script",v)])∧∀base:Heap,K.In base→base.Ns mainGlobals mg→FnOk l.prog w K mg base CX0 11 fa fd ["_law_script"] (zdx K):=by
  have e:=hfa.symm.trans (PySem.W.mg_of X G a41)
  cases e
  have F1:=yao (st:=yay) l1 c1 k1
  have F2:=yao (st:=zaG) l2 c2 k2
  have F3:=yao (st:=zcS) l3 c3 k3
  have F4:=yao (st:=zaH) l4 c4 k4
  have F5:=yao (st:=ybY) l5 c5 k5
  have F6:=yao (st:=ybC) l6 c6 k6
  have F7:=yao (st:=zb3) l7 c7 k7
  have F8:=yao (st:=yaz) l8 c8 k8
  have F9:=yao (st:=zcJ) l9 c9 k9
  have F10:=yao (st:=ybZ) l10 c10 k10
  have F11:=yao (st:=ya7) l11 c11 k11
  have F12:=yao (st:=ybb) l12 c12 k12
  have F13:=yao (st:=zaX) l13 c13 k13
  have F14:=yao (st:=zaD) l14 c14 k14
  have F15:=yao (st:=zbn) l15 c15 k15
  have F16:=yao (st:=ybk) l16 c16 k16
  have F17:=yao (st:=yaX) l17 c17 k17
  have F18:=yao (st:=ya8) l18 c18 k18
  have F19:=yao (st:=ybF) l19 c19 k19
  have F20:=yao (st:=zaA) l20 c20 k20
  have F21:=yao (st:=yb3) l21 c21 k21
  have F22:=yao (st:=ycN) l22 c22 k22
  have F23:=yao (st:=za9) l23 c23 k23
  have F24:=yao (st:=yci) l24 c24 k24
  have F25:=yao (st:=zbw) l25 c25 k25
  have F26:=yao (st:=yaP) l26 c26 k26
  have F27:=yao (st:=yaW) l27 c27 k27
  have F28:=yao (st:=yaG) l28 c28 k28
  have F29:=yao (st:=yaI) l29 c29 k29
  have F30:=yao (st:=zaJ) l30 c30 k30
  have F31:=yao (st:=zaz) l31 c31 k31
  have F32:=yao (st:=yaw) l32 c32 k32
  have F33:=yao (st:=zaF) l33 c33 k33
  have F34:=yao (st:=yaE) l34 c34 k34
  have F35:=yao (st:=zaP) l35 c35 k35
  have F36:=yao (st:=zaS) l36 c36 k36
  have F37:=yao (st:=yaV) l37 c37 k37
  have F38:=yao (st:=zar) l38 c38 k38
  have F39:=yao (st:=zaQ) l39 c39 k39
  have F40:=yao (st:=zaV) l40 c40 k40
  have F41:=yao (st:=zdg) l41 c41 k41
  have b1:=F1.binds (ps:=["base","many"]) fun _ _ _ _ _ _ us hl=>match us,hl with | [_,_],_=>rfl
  have b2:=F2.binds (ps:=["field"]) fun _ _ _ _ _ _ us hl=>match us,hl with | [_],_=>rfl
  have b3:=F3.binds (ps:=["field","one","other"]) fun _ _ _ _ _ _ us hl=>match us,hl with | [_,_,_],_=>rfl
  have b4:=F4.binds (ps:=["field","digit","one"]) fun _ _ _ _ _ _ us hl=>match us,hl with | [_,_,_],_=>rfl
  have b5:=F5.binds (ps:=["field","one","other"]) fun _ _ _ _ _ _ us hl=>match us,hl with | [_,_,_],_=>rfl
  have b6:=F6.binds (ps:=["field","one"]) fun _ _ _ _ _ _ us hl=>match us,hl with | [_,_],_=>rfl
  have b7:=F7.binds (ps:=["field","one","other"]) fun _ _ _ _ _ _ us hl=>match us,hl with | [_,_,_],_=>rfl
  have b8:=F8.binds (ps:=["field","one","many"]) fun _ _ _ _ _ _ us hl=>match us,hl with | [_,_,_],_=>rfl
  have b9:=F9.binds (ps:=["field","one","other"]) fun _ _ _ _ _ _ us hl=>match us,hl with | [_,_,_],_=>rfl
  have b10:=F10.binds (ps:=["field","one","many"]) fun _ _ _ _ _ _ us hl=>match us,hl with | [_,_,_],_=>rfl
  have b11:=F11.binds (ps:=["field","one"]) fun _ _ _ _ _ _ us hl=>match us,hl with | [_,_],_=>rfl
  have b12:=F12.binds (ps:=["field","few"]) fun _ _ _ _ _ _ us hl=>match us,hl with | [_,_],_=>rfl
  have b13:=F13.binds (ps:=["field","one","other"]) fun _ _ _ _ _ _ us hl=>match us,hl with | [_,_,_],_=>rfl
  have b14:=F14.binds (ps:=["field","one","word"]) fun _ _ _ _ _ _ us hl=>match us,hl with | [_,_,_],_=>rfl
  have b15:=F15.binds (ps:=["things"]) fun _ _ _ _ _ _ us hl=>match us,hl with | [_],_=>rfl
  have b16:=F16.binds (ps:=["row","many"]) fun _ _ _ _ _ _ us hl=>match us,hl with | [_,_],_=>rfl
  have b17:=F17.binds (ps:=["field","one","other"]) fun _ _ _ _ _ _ us hl=>match us,hl with | [_,_,_],_=>rfl
  have b18:=F18.binds (ps:=["field","one","other"]) fun _ _ _ _ _ _ us hl=>match us,hl with | [_,_,_],_=>rfl
  have b19:=F19.binds (ps:=["wheel"]) fun _ _ _ _ _ _ us hl=>match us,hl with | [_],_=>rfl
  have b20:=F20.binds (ps:=["field","root","powers"]) fun _ _ _ _ _ _ us hl=>match us,hl with | [_,_,_],_=>rfl
  have b21:=F21.binds (ps:=["wheel"]) fun _ _ _ _ _ _ us hl=>match us,hl with | [_],_=>rfl
  have b22:=F22.binds (ps:=["wheel"]) fun _ _ _ _ _ _ us hl=>match us,hl with | [_],_=>rfl
  have b23:=F23.binds (ps:=["wheel"]) fun _ _ _ _ _ _ us hl=>match us,hl with | [_],_=>rfl
  have b24:=F24.binds (ps:=["wheel","given"]) fun _ _ _ _ _ _ us hl=>match us,hl with | [_,_],_=>rfl
  have b25:=F25.binds (ps:=["wheel"]) fun _ _ _ _ _ _ us hl=>match us,hl with | [_],_=>rfl
  have b26:=F26.binds (ps:=["_law_script"]) fun _ _ _ _ _ _ us hl=>match us,hl with | [_],_=>rfl
  have b27:=F27.binds (ps:=["_law_purse_here","_law_many"]) fun _ _ _ _ _ _ us hl=>match us,hl with | [_,_],_=>rfl
  have b28:=F28.binds (ps:=["_law_one","_law_many"]) fun _ _ _ _ _ _ us hl=>match us,hl with | [_,_],_=>rfl
  have b29:=F29.binds (ps:=["_law_field_here","_law_thing"]) fun _ _ _ _ _ _ us hl=>match us,hl with | [_,_],_=>rfl
  have b30:=F30.binds (ps:=["_law_field_here","_law_digits_here"]) fun _ _ _ _ _ _ us hl=>match us,hl with | [_,_],_=>rfl
  have b31:=F31.binds (ps:=["_law_field_here","_law_one","_law_other"]) fun _ _ _ _ _ _ us hl=>match us,hl with | [_,_,_],_=>rfl
  have b32:=F32.binds (ps:=["_law_field_here"]) fun _ _ _ _ _ _ us hl=>match us,hl with | [_],_=>rfl
  have b33:=F33.binds (ps:=["_law_purse_here"]) fun _ _ _ _ _ _ us hl=>match us,hl with | [_],_=>rfl
  have b34:=F34.binds (ps:=["_law_field_here"]) fun _ _ _ _ _ _ us hl=>match us,hl with | [_],_=>rfl
  have b35:=F35.binds (ps:=["_law_table_here","_law_one","_law_other"]) fun _ _ _ _ _ _ us hl=>match us,hl with | [_,_,_],_=>rfl
  have b36:=F36.binds (ps:=["_law_table_here","_law_one"]) fun _ _ _ _ _ _ us hl=>match us,hl with | [_,_],_=>rfl
  have b37:=F37.binds (ps:=["_law_i","_law_n","_law_q"]) fun _ _ _ _ _ _ us hl=>match us,hl with | [_,_,_],_=>rfl
  have b38:=F38.binds (ps:=["_law_purse_here","_law_most"]) fun _ _ _ _ _ _ us hl=>match us,hl with | [_,_],_=>rfl
  have b39:=F39.binds (ps:=["_law_table_here","_law_root"]) fun _ _ _ _ _ _ us hl=>match us,hl with | [_,_],_=>rfl
  have b40:=F40.binds (ps:=["_law_wheel_here"]) fun _ _ _ _ _ _ us hl=>match us,hl with | [_],_=>rfl
  have B:Bl mg:=by
    intro x hx
    simp only [yge,List.mem_cons,List.not_mem_nil,or_false] at hx
    rcases hx with rfl|rfl|rfl|rfl|rfl|rfl|rfl|rfl|rfl|rfl|rfl|rfl|rfl|rfl|rfl|rfl|rfl|rfl|rfl|rfl|rfl
    · exact PySem.W.mg_none_of X G z1
    · exact PySem.W.mg_none_of X G z2
    · exact PySem.W.mg_none_of X G z3
    · exact PySem.W.mg_none_of X G z4
    · exact PySem.W.mg_none_of X G z5
    · exact PySem.W.mg_none_of X G z6
    · exact PySem.W.mg_none_of X G z7
    · exact PySem.W.mg_none_of X G z8
    · exact PySem.W.mg_none_of X G z9
    · exact PySem.W.mg_none_of X G z10
    · exact PySem.W.mg_none_of X G z11
    · exact PySem.W.mg_none_of X G z12
    · exact PySem.W.mg_none_of X G z13
    · exact PySem.W.mg_none_of X G z14
    · exact PySem.W.mg_none_of X G z15
    · exact PySem.W.mg_none_of X G z16
    · exact PySem.W.mg_none_of X G z17
    · exact PySem.W.mg_none_of X G z18
    · exact PySem.W.mg_none_of X G z19
    · exact PySem.W.mg_none_of X G z20
    · exact PySem.W.mg_none_of X G z21
  have ER:Errs K mg Re By Nr Tm Nt Nl:=⟨PySem.W.mg_of X G x1,PySem.W.mg_of X G x2,PySem.W.mg_of X G x3,PySem.W.mg_of X G x4,PySem.W.mg_of X G x5,PySem.W.mg_of X G x6,PySem.W.mg_none_of X G x7,x8⟩
  have m_MOST_WORDS:=PySem.W.mg_of X G kk_MOST_WORDS
  refine ⟨PySem.W.fnOf "law" "law" (yai zdg) (yah zdg) (zad zdg) .none kV41 dc41 pm41 an41 cd41 ct41,fun s v=>.of_eq rfl,fun base _ _=>?_⟩
  have h_number_power:Has l.prog w K mg base 1 "number_power" ["base","many"] _:=⟨f1,_,zcz (P:=l.prog) (w:=w) (base:=base) B  F1,b1,k1,PySem.W.mg_of X G a1⟩
  have h_many_things:Has l.prog w K mg base 2 "many_things" ["field"] _:=⟨f2,_,ygx (P:=l.prog) (w:=w) (base:=base) B h_number_power F2,b2,k2,PySem.W.mg_of X G a2⟩
  have h_plus:Has l.prog w K mg base 1 "plus" ["field","one","other"] _:=⟨f3,_,ygD (P:=l.prog) (w:=w) (base:=base) B  F3,b3,k3,PySem.W.mg_of X G a3⟩
  have h_digit_times:Has l.prog w K mg base 1 "digit_times" ["field","digit","one"] _:=⟨f4,_,zcF (P:=l.prog) (w:=w) (base:=base) B  F4,b4,k4,PySem.W.mg_of X G a4⟩
  have h_minus:Has l.prog w K mg base 2 "minus" ["field","one","other"] _:=⟨f5,_,zfC (P:=l.prog) (w:=w) (base:=base) B h_plus h_digit_times F5,b5,k5,PySem.W.mg_of X G a5⟩
  have h_lifted:Has l.prog w K mg base 2 "lifted" ["field","one"] _:=⟨f6,_,yff (P:=l.prog) (w:=w) (base:=base) B h_plus h_digit_times h_number_power F6,b6,k6,PySem.W.mg_of X G a6⟩
  have h_times:Has l.prog w K mg base 3 "times" ["field","one","other"] _:=⟨f7,_,yfB (P:=l.prog) (w:=w) (base:=base) B h_plus h_digit_times h_lifted F7,b7,k7,PySem.W.mg_of X G a7⟩
  have h_times_itself:Has l.prog w K mg base 4 "times_itself" ["field","one","many"] _:=⟨f8,_,zfo (P:=l.prog) (w:=w) (base:=base) B h_times F8,b8,k8,PySem.W.mg_of X G a8⟩
  have h_over:Has l.prog w K mg base 5 "over" ["field","one","other"] _:=⟨f9,_,zgs (P:=l.prog) (w:=w) (base:=base) B h_times h_times_itself h_many_things F9,b9,k9,PySem.W.mg_of X G a9⟩
  have h_power:Has l.prog w K mg base 5 "power" ["field","one","many"] _:=⟨f10,_,yf1 (P:=l.prog) (w:=w) (base:=base) B h_times_itself h_many_things F10,b10,k10,PySem.W.mg_of X G a10⟩
  have h_round_of:Has l.prog w K mg base 4 "round_of" ["field","one"] _:=⟨f11,_,zfE (P:=l.prog) (w:=w) (base:=base) B h_times F11,b11,k11,PySem.W.mg_of X G a11⟩
  have h_letters:Has l.prog w K mg base 6 "letters" ["field","few"] _:=⟨f12,_,zew (P:=l.prog) (w:=w) (base:=base) B h_number_power h_power h_many_things F12,b12,k12,PySem.W.mg_of X G a12⟩
  have h_word_sum:Has l.prog w K mg base 2 "word_sum" ["field","one","other"] _:=⟨f13,_,zdN (P:=l.prog) (w:=w) (base:=base) B h_plus F13,b13,k13,PySem.W.mg_of X G a13⟩
  have h_word_times:Has l.prog w K mg base 4 "word_times" ["field","one","word"] _:=⟨f14,_,zcZ (P:=l.prog) (w:=w) (base:=base) B h_times F14,b14,k14,PySem.W.mg_of X G a14⟩
  have h_trimmed:Has l.prog w K mg base 1 "trimmed" ["things"] _:=⟨f15,_,zfy (P:=l.prog) (w:=w) (base:=base) B  F15,b15,k15,PySem.W.mg_of X G a15⟩
  have h_widened:Has l.prog w K mg base 1 "widened" ["row","many"] _:=⟨f16,_,zha (P:=l.prog) (w:=w) (base:=base) B  F16,b16,k16,PySem.W.mg_of X G a16⟩
  have h_row_times:Has l.prog w K mg base 4 "row_times" ["field","one","other"] _:=⟨f17,_,zfu (P:=l.prog) (w:=w) (base:=base) B h_plus h_times (zg4 h_trimmed) F17,b17,k17,PySem.W.mg_of X G a17⟩
  have h_row_over:Has l.prog w K mg base 6 "row_over" ["field","one","other"] _:=⟨f18,_,yfH (P:=l.prog) (w:=w) (base:=base) B h_over h_minus h_times (zg4 h_trimmed) F18,b18,k18,PySem.W.mg_of X G a18⟩
  have h_length:Has l.prog w K mg base 5 "length" ["wheel"] _:=⟨f19,_,zfa (P:=l.prog) (w:=w) (base:=base) B h_round_of F19,b19,k19,PySem.W.mg_of X G a19⟩
  have h_row_of_roots:Has l.prog w K mg base 6 "row_of_roots" ["field","root","powers"] _:=⟨f20,_,yha (P:=l.prog) (w:=w) (base:=base) B h_row_times h_minus h_power F20,b20,k20,PySem.W.mg_of X G a20⟩
  have h_maker:Has l.prog w K mg base 7 "maker" ["wheel"] _:=⟨f21,_,zf1 (P:=l.prog) (w:=w) (base:=base) B h_row_of_roots F21,b21,k21,PySem.W.mg_of X G a21⟩
  have h_free:Has l.prog w K mg base 6 "free" ["wheel"] _:=⟨f22,_,zgL (P:=l.prog) (w:=w) (base:=base) B h_length F22,b22,k22,PySem.W.mg_of X G a22⟩
  have h_how_many:Has l.prog w K mg base 7 "how_many" ["wheel"] _:=⟨f23,_,zfY (P:=l.prog) (w:=w) (base:=base) B h_number_power h_free F23,b23,k23,PySem.W.mg_of X G a23⟩
  have h_made:Has l.prog w K mg base 8 "made" ["wheel","given"] _:=⟨f24,_,ygo (P:=l.prog) (w:=w) (base:=base) B h_row_over h_trimmed h_maker h_minus h_widened F24,b24,k24,PySem.W.mg_of X G a24⟩
  have h_wordsX:HasX l.prog w K mg base 9 "words" ["wheel"] _:=⟨f25,_,ye8 (P:=l.prog) (w:=w) (base:=base) m_MOST_WORDS B ER h_how_many h_letters h_free h_made h_word_times h_word_sum F25,b25,k25,PySem.W.mg_of X G a25⟩
  have h__law_purse:Has l.prog w K mg base 1 "_law_purse" ["_law_script"] _:=⟨f26,_,yfz (P:=l.prog) (w:=w) (base:=base) B  F26,b26,k26,PySem.W.mg_of X G a26⟩
  have h__law_pick:Has l.prog w K mg base 1 "_law_pick" ["_law_purse_here","_law_many"] _:=⟨f27,_,ygh (P:=l.prog) (w:=w) (base:=base) B  F27,b27,k27,PySem.W.mg_of X G a27⟩
  have h__law_raised:Has l.prog w K mg base 1 "_law_raised" ["_law_one","_law_many"] _:=⟨f28,_,yfi (P:=l.prog) (w:=w) (base:=base) B  F28,b28,k28,PySem.W.mg_of X G a28⟩
  have h__law_digits:Has l.prog w K mg base 1 "_law_digits" ["_law_field_here","_law_thing"] _:=⟨f29,_,ye5 (P:=l.prog) (w:=w) (base:=base) B  F29,b29,k29,PySem.W.mg_of X G a29⟩
  have h__law_number:Has l.prog w K mg base 1 "_law_number" ["_law_field_here","_law_digits_here"] _:=⟨f30,_,yeJ (P:=l.prog) (w:=w) (base:=base) B  F30,b30,k30,PySem.W.mg_of X G a30⟩
  have h__law_product:Has l.prog w K mg base 2 "_law_product" ["_law_field_here","_law_one","_law_other"] _:=⟨f31,_,yet (P:=l.prog) (w:=w) (base:=base) B h__law_digits h__law_number F31,b31,k31,PySem.W.mg_of X G a31⟩
  have h__law_is_good:Has l.prog w K mg base 3 "_law_is_good" ["_law_field_here"] _:=⟨f32,_,zgF (P:=l.prog) (w:=w) (base:=base) B h__law_raised h__law_product F32,b32,k32,PySem.W.mg_of X G a32⟩
  have h__law_field:Has l.prog w K mg base 4 "_law_field" ["_law_purse_here"] _:=⟨f33,_,zfS (P:=l.prog) (w:=w) (base:=base) B h__law_pick h__law_raised h__law_is_good F33,b33,k33,PySem.W.mg_of X G a33⟩
  have h__law_table:Has l.prog w K mg base 3 "_law_table" ["_law_field_here"] _:=⟨f34,_,yf0 (P:=l.prog) (w:=w) (base:=base) B h__law_raised h__law_product F34,b34,k34,PySem.W.mg_of X G a34⟩
  have h__law_times:Has l.prog w K mg base 1 "_law_times" ["_law_table_here","_law_one","_law_other"] _:=⟨f35,_,zeQ (P:=l.prog) (w:=w) (base:=base) B  F35,b35,k35,PySem.W.mg_of X G a35⟩
  have h__law_round:Has l.prog w K mg base 2 "_law_round" ["_law_table_here","_law_one"] _:=⟨f36,_,zeI (P:=l.prog) (w:=w) (base:=base) B h__law_times F36,b36,k36,PySem.W.mg_of X G a36⟩
  have h__law_ring:Has l.prog w K mg base 1 "_law_ring" ["_law_i","_law_n","_law_q"] _:=⟨f37,_,zfZ (P:=l.prog) (w:=w) (base:=base) B  F37,b37,k37,PySem.W.mg_of X G a37⟩
  have h__law_wheel:Has l.prog w K mg base 5 "_law_wheel" ["_law_purse_here","_law_most"] _:=⟨f38,_,zeZ (P:=l.prog) (w:=w) (base:=base) B h__law_pick h__law_field h__law_table h__law_raised h__law_round h__law_ring F38,b38,k38,PySem.W.mg_of X G a38⟩
  have h__law_roots:Has l.prog w K mg base 2 "_law_roots" ["_law_table_here","_law_root"] _:=⟨f39,_,zft (P:=l.prog) (w:=w) (base:=base) B h__law_times F39,b39,k39,PySem.W.mg_of X G a39⟩
  have h__law_told:Has l.prog w K mg base 10 "_law_told" ["_law_wheel_here"] _:=⟨f40,_,yeY (P:=l.prog) (w:=w) (base:=base) B ER h_wordsX F40,b40,k40,PySem.W.mg_of X G a40⟩
  exact yg3 (P:=l.prog) (w:=w) (base:=base) B h__law_purse h__law_pick h__law_wheel h__law_roots h__law_raised h__law_ring h__law_told F41
theorem walk {l:PySem.W.OpenLaw} {q:Program} {loose:List Str} {XP:(Str→Option Value)→Heap→Prop} {YP:World→Heap→Prop} {d:DefRec} {K:Params→PySem.W.Frag} (hn:l.most=some 63) (hdf:d.params.defaults=[])
    (hY:∀(w:World) (h:Heap),YP w h→(K w.params).In h)
    (F:∀(w:World) (mg:Str→Option Value) (fa:Addr) (h:Heap),(K w.params).In h→h.Ns mainGlobals mg→mg d.name=some (.ref fa)→
      ∃fd:FuncData,(∀(s:Shared) (u:Value),BindsTo s fd ⟨[u],[]⟩ [("_law_script",u)])∧∀base:Heap,(K w.params).In base→base.Ns mainGlobals mg→FnOk l.prog w (K w.params) mg base CX0 11 fa fd ["_law_script"] (zdx (K w.params))) :
    PySem.W.WalkO q loose XP YP l.row.toRowW d [] (fun f vs=>PySem.call f vs) :=
  L2.walk_of (n:=63) (k:=11) (x:="_law_script") (CX:=fun _=>CX0) (sp:=fun w=>zdx (K w.params)) hn (by decide) hdf ⟨rfl,by decide,by decide,rfl⟩ hY F (fun _ _ a ns hl _ hS=>zfT hl hS) fun _ _ _ _ _ z=>z
end My
namespace PySem.W.Fast
def tw9934107527419275539:=0
def tw10587979987843429354:=0
def tw17565227999434996810:=0
def tw3378966200318420660:=0
def tw17986283434167297125:=0
def tw7860511627625945172:=0
def tw14688555295746069857:=0
def tw12150917364243667222:=0
def tw15111948691438998502:=0
def tw15521857695768219416:=0
def tw14318473875782281389:=0
def tw9221345287348026544:=0
def tw5753529484340040806:=0
def tw6809079420098441543:=0
def tw228188860798435138:=0
def tw2173434032679386781:=0
def tw5995395124081540556:=0
def tw6188666399011071809:=0
def tw13187920515679414909:=0
def tw15490181648813230195:=0
def tw16652110991032605248:=0
def tw3715364121736457691:=0
def tw7061126510499389641:=0
def tw2683139428680083140:=0
def tw3114056705067802833:=0
def tw11039398945590340374:=0
def tw15278461503819013230:=0
def tw11033238892737162043:=0
def tw15085948041912954034:=0
def tw3647161307535972981:=0
def tw7085473290289136447:=0
def tw8097622831723675101:=0
def tw13966900617039875280:=0
def tw14375712235998301951:=0
def tw3944903110653537584:=0
def tw8524148894764230587:=0
def tw8433808704701010817:=0
def tw5763359803065584227:=0
def tw3169765520916826873:=0
def tw11163849045060761027:=0
def tw14049194516544616189:=0
def tw4275334279784352959:=0
def tw4689840346414188869:=0
def tw1526160935896351880:=0
def tw14857994190925058881:=0
def tw3098973648379998853:=0
def tw2223499236164518105:=0
def tw9208620414234678567:=0
def tw11858100069950120192:=0
def tw8344442433426028704:=0
def tw17949701121352265564:=0
def tw7344661260531346011:=0
def tw16694661305694146784:=0
def tw4683216674561440706:=0
def tw16737152668117329720:=0
def tw3045810880528645937:=0
def tw5590749739578994280:=0
def tw15808892468959004009:=0
def tw5104398591080342841:=0
def tw1826875832705673941:=0
def tw10924926084913450952:=0
def tw15364233057855372048:=0
def tw3787071798923898149:=0
def tw1210000255986656285:=0
def tw6959185840676599191:=0
def tw8525352864687539980:=0
def tw833473450484679042:=0
def tw13540333951883331958:=0
def tw11719865034332623916:=0
def tw6155995074496182825:=0
def tw6964616068976955536:=0
def tw2850103655531308095:=0
def tw10248268831609546831:=0
def tw2498096985402919531:=0
def tw14622989646500016642:=0
def tw359508658335270478:=0
def tw13318186406492455976:=0
def tw5482797192357269151:=0
def tw9787286844235776567:=0
def tw2807621595693947747:=0
def tw16450412374168692063:=0
def tw8930312541939413608:=0
def tw14066528849362559590:=0
def tw17363679188999921676:=0
def tw17632968493651399184:=0
def tw9601364628326726988:=0
def tw831517598670827234:=0
def tw295530921197313659:=0
def tw8815041924510678812:=0
def tw348992801919564721:=0
def tw5091283085970420032:=0
def tw14917985961393939921:=0
def tw1284977419011352974:=0
def tw10034295001922944215:=0
def tw8419356096168432223:=0
def tw16782901535960425107:=0
def tw4959577396599087134:=0
def tw11935403507047935455:=0
def tw7918741573613450484:=0
def tw3713347770333361991:=0
def tw4563900534278103778:=0
def tw8373470275242185296:=0
def tw10525982214441646276:=0
def tw6468009512043265085:=0
def tw12704296728053143591:=0
def tw12514384907274493219:=0
def tw17830404959307085682:=0
def tw2816654260069858453:=0
def tw8312069775274539032:=0
def tw7783530569410352157:=0
def tw4412221718913510941:=0
def tw12462628475145173985:=0
def tw1089383355593047019:=0
def tw7793008583326776759:=0
def tw17477906682595536808:=0
def tw347525828936435555:=0
def tw11095085574296292805:=0
def tw15522828484580494343:=0
def tw13544912520779473472:=0
def tw15248055962258001856:=0
def tw10478874328593106299:=0
def tw2467515186262095860:=0
def tw15392995220845860884:=0
def tw15546060147728803867:=0
def tw417941500018326136:=0
def tw17259386177515817334:=0
def tw17649302105954448038:=0
def tw2214678146790026486:=0
def tw5376609193415795845:=0
def tw9226701130343895426:=0
def tw12934835346955717736:=0
def tw14196923550592636874:=0
def tw1237396127984948593:=0
def tw7753632959146191185:=0
def tw12539046518457941528:=0
def tw3262990685333470581:=0
def tw18356036851091679878:=0
def tw15659610853690514812:=0
def tw6214174731968801117:=0
def tw11336709809036880890:=0
def tw5048802928313337702:=0
def tw13312948319996724782:=0
def tw16872379971410949927:=0
def tw3910144520044356858:=0
def tw13603042722849811106:=0
def tw9247403839368339812:=0
def tw17451152482519099013:=0
def tw5761470374945611375:=0
def tw8205545769796625409:=0
def tw15988198015009625036:=0
def tw7842252551960115302:=0
def tw16538318675615206026:=0
def tw7269378636714253593:=0
def tw10760972527961778273:=0
def tw11347826048279256329:=0
def tw14812707325233140432:=0
def tw16926224825907353483:=0
def tw6252643154882346516:=0
def tw17094898768089042250:=0
def tw14085272885628380420:=0
def tw1809429692955297260:=0
def tw16752744918144624463:=0
def tw17334970337222676696:=0
def tw17024600867314295285:=0
def tw14481192659570245912:=0
def tw7392778198204056556:=0
def tw3575467704049265239:=0
def tw15610484140569653592:=0
def tw6986800776051222809:=0
def tw11072159743122691073:=0
def tw2140390014377222601:=0
def tw9082749945901202942:=0
def tw9328371064285626578:=0
def tw18127460749986417643:=0
def tw17063219623517385505:=0
def tw4961802059246676505:=0
def tw7975604858460457752:=0
def tw2208471894406217656:=0
def tw2626759134191084793:=0
def tw13228945007734880556:=0
def tw18053807093479182960:=0
def tw6564925593370059458:=0
def tw1699796941144209842:=0
def tw11745322585109551270:=0
def tw2149948316675348154:=0
def tw2360614766550849631:=0
def tw6742920321346243899:=0
def tw9865399828687860689:=0
def tw12156656258535801948:=0
def tw9232960810628448802:=0
def tw5574659601648721860:=0
def tw2465962341445177605:=0
def tw17482495392839629807:=0
def tw1674722449741131178:=0
def tw7391257470997980634:=0
def tw6132403802566660726:=0
def tw9934355015430935919:=0
def tw8045300945809379277:=0
def tw16154877712143299460:=0
def tw4135973364901340550:=0
def tw6220668880845978127:=0
def tw1179608531182516667:=0
def tw2717234206770493420:=0
def tw14494425719083349683:=0
def tw5226202907490496238:=0
def tw14949171782952324543:=0
def tw6274648466238732269:=0
def tw1661092341197720000:=0
def tw8584021485065792749:=0
def tw6477109012949204474:=0
def tw15276947787232185977:=0
def tw11516790432957773642:=0
def tw2760287935313559588:=0
def tw3500987368608555417:=0
def tw6011733805682689563:=0
def tw4035176717996813735:=0
def tw17830369871730976091:=0
def tw16677221175129079584:=0
def tw14770765289529749935:=0
def tw4171592011831841474:=0
def tw7013345812199257370:=0
def tw5034599981794593871:=0
def tw16615112453038473257:=0
def tw9113825615804758676:=0
def tw3660010110525292146:=0
def tw13960341044511810020:=0
def tw9209146639408354329:=0
def tw10860292157050185406:=0
def tw13485252951167289528:=0
def tw6519193251581988360:=0
def tw4357697497418782792:=0
def tw2806158337093907803:=0
def tw9380801953164151322:=0
def tw2865600247697930109:=0
def tw15581007680931725024:=0
def tw4740621147862519627:=0
def tw4552216448950843979:=0
def tw9323067428076844940:=0
def tw10832628706659940793:=0
def tw17129037331355181500:=0
def tw13912268967464790835:=0
def tw6221197605093718747:=0
def tw16445564669104471113:=0
def tw13717734696545825496:=0
def tw16251179935350574278:=0
def tw13522470879476124979:=0
def tw8264959806206745320:=0
def tw3134224594237740905:=0
def tw12679767000670722520:=0
def tw10044259335312968500:=0
def tw7539073217362609062:=0
def tw12681863472231194032:=0
def tw16389622401613857688:=0
def tw6695466455189953502:=0
def tw1437664371273947955:=0
def tw17847592437477455371:=0
def tw7041820878726978571:=0
def tw184373899156833735:=0
def tw16639573538317841395:=0
def tw16440227617571093407:=0
def tw12592967271047983844:=0
def tw1465457589252105105:=0
def tw192414742040583789:=0
def tw17840076564505963198:=0
def tw146622393587140879:=0
def tw13900374518259534906:=0
def tw3684986838095261204:=0
def tw18081543553725944382:=0
def tw18179950411503139928:=0
def tw2542864085338213394:=0
def tw13907904104216884769:=0
def tw839918047616420040:=0
def tw5221973891663286427:=0
def tw5754237409844040485:=0
def tw8972888021601403817:=0
def tw11268821994012930041:=0
def tw11690162944114915637:=0
def tw17300691286991595:=0
def tw9796874544288170666:=0
def tw9716430346225149412:=0
def tw17223245546449900860:=0
def tw6996432915272405655:=0
def tw11768973048448408936:=0
def tw9428070449426416574:=0
def tw13000613432974962136:=0
def tw730487442258413069:=0
def tw2692666672710921241:=0
def tw13683159986809719898:=0
def tw3559790809493859342:=0
def tw13129059076382682745:=0
def tw3467096640776482105:=0
def tw2513207947873618810:=0
def tw5586083730101567280:=0
def tw1884718954067493260:=0
def tw7316299860109864223:=0
def tw16542884541866015668:=0
def tw3250484691153032018:=0
def tw4939831600312813947:=0
def tw13413326147413684073:=0
def tw8306080569796609376:=0
def tw11031694831692721988:=0
def tw9605943783711212755:=0
def tw9030269942233710609:=0
def tw8946297188433515476:=0
def tw14204978514194901617:=0
def tw18029501083188152159:=0
def tw6594269092095493493:=0
def tw2346211591928383077:=0
def tw17909817143828487119:=0
def tw2083169575968685957:=0
def tw11881397421156103951:=0
def tw11614932901135872757:=0
def tw14844241645991020523:=0
def tw5589486580057170662:=0
def tw5919303269927595653:=0
def tw8988092754989745413:=0
def tw13562433786402517959:=0
def tw16323588524141205919:=0
def tw8265708761109353857:=0
def tw11198193171643129157:=0
def tw6322793568820752609:=0
def tw17156692524823351996:=0
def tw4453396473122299908:=0
def tw17276861967614696400:=0
def tw4279371947130317232:=0
def tw13887245555849770394:=0
def tw7539306908338063703:=0
def tw17764991336296112848:=0
def tw16377521800254120332:=0
def tw9750353065794733434:=0
def tw15560611185095662394:=0
def tw4217558305613491202:=0
def tw2839936209353801759:=0
def tw9031392252379824730:=0
def tw1689534239138125663:=0
def tw12348364105400676575:=0
def tw3619552744918905914:=0
def tw18198777128009469000:=0
end PySem.W.Fast
open PySem PySem.W PyProof.Rows
set_option maxRecDepth 100000 in
set_option maxHeartbeats 0 in
theorem PySem.Challenge.cw_roundwords_k22_too_many_words_holds : PySem.Challenge.rw_roundwords_k22_too_many_words.Holds := by
  w_on;refine holds_law yhb fun said=>?_;k_head;(case hw=>w_witness2)
  k_fill
  refine My.walk (l:=PySem.Challenge.rw_roundwords_k22_too_many_words) rfl rfl (fun w h Y=>PySem.W.kIn_of Y) ?F
  case F =>
    intro w mg fa h KX G hmg
    refine' My.all_mk KX G hmg ?a1 ?l1 ?c1 ?k1 ?a2 ?l2 ?c2 ?k2 ?a3 ?l3 ?c3 ?k3 ?a4 ?l4 ?c4 ?k4 ?a5 ?l5 ?c5 ?k5 ?a6 ?l6 ?c6 ?k6 ?a7 ?l7 ?c7 ?k7 ?a8 ?l8 ?c8 ?k8 ?a9 ?l9 ?c9 ?k9 ?a10 ?l10 ?c10 ?k10 ?a11 ?l11 ?c11 ?k11 ?a12 ?l12 ?c12 ?k12 ?a13 ?l13 ?c13 ?k13 ?a14 ?l14 ?c14 ?k14 ?a15 ?l15 ?c15 ?k15 ?a16 ?l16 ?c16 ?k16 ?a17 ?l17 ?c17 ?k17 ?a18 ?l18 ?c18 ?k18 ?a19 ?l19 ?c19 ?k19 ?a20 ?l20 ?c20 ?k20 ?a21 ?l21 ?c21 ?k21 ?a22 ?l22 ?c22 ?k22 ?a23 ?l23 ?c23 ?k23 ?a24 ?l24 ?c24 ?k24 ?a25 ?l25 ?c25 ?k25 ?a26 ?l26 ?c26 ?k26 ?a27 ?l27 ?c27 ?k27 ?a28 ?l28 ?c28 ?k28 ?a29 ?l29 ?c29 ?k29 ?a30 ?l30 ?c30 ?k30 ?a31 ?l31 ?c31 ?k31 ?a32 ?l32 ?c32 ?k32 ?a33 ?l33 ?c33 ?k33 ?a34 ?l34 ?c34 ?k34 ?a35 ?l35 ?c35 ?k35 ?a36 ?l36 ?c36 ?k36 ?a37 ?l37 ?c37 ?k37 ?a38 ?l38 ?c38 ?k38 ?a39 ?l39 ?c39 ?k39 ?a40 ?l40 ?c40 ?k40 ?a41 ?l41 ?c41 ?k41 ?x1 ?x2 ?x3 ?x4 ?x5 ?x6 ?x7 ?x8 ?kk_MOST_WORDS ?z1 ?z2 ?z3 ?z4 ?z5 ?z6 ?z7 ?z8 ?z9 ?z10 ?z11 ?z12 ?z13 ?z14 ?z15 ?z16 ?z17 ?z18 ?z19 ?z20 ?z21
    (case a1=>k_is);(case l1=>k_is);(case c1=>k_is);(case k1=>k_is)
    (case a2=>k_is);(case l2=>k_is);(case c2=>k_is);(case k2=>k_is)
    (case a3=>k_is);(case l3=>k_is);(case c3=>k_is);(case k3=>k_is)
    (case a4=>k_is);(case l4=>k_is);(case c4=>k_is);(case k4=>k_is)
    (case a5=>k_is);(case l5=>k_is);(case c5=>k_is);(case k5=>k_is)
    (case a6=>k_is);(case l6=>k_is);(case c6=>k_is);(case k6=>k_is)
    (case a7=>k_is);(case l7=>k_is);(case c7=>k_is);(case k7=>k_is)
    (case a8=>k_is);(case l8=>k_is);(case c8=>k_is);(case k8=>k_is)
    (case a9=>k_is);(case l9=>k_is);(case c9=>k_is);(case k9=>k_is)
    (case a10=>k_is);(case l10=>k_is);(case c10=>k_is);(case k10=>k_is)
    (case a11=>k_is);(case l11=>k_is);(case c11=>k_is);(case k11=>k_is)
    (case a12=>k_is);(case l12=>k_is);(case c12=>k_is);(case k12=>k_is)
    (case a13=>k_is);(case l13=>k_is);(case c13=>k_is);(case k13=>k_is)
    (case a14=>k_is);(case l14=>k_is);(case c14=>k_is);(case k14=>k_is)
    (case a15=>k_is);(case l15=>k_is);(case c15=>k_is);(case k15=>k_is)
    (case a16=>k_is);(case l16=>k_is);(case c16=>k_is);(case k16=>k_is)
    (case a17=>k_is);(case l17=>k_is);(case c17=>k_is);(case k17=>k_is)
    (case a18=>k_is);(case l18=>k_is);(case c18=>k_is);(case k18=>k_is)
    (case a19=>k_is);(case l19=>k_is);(case c19=>k_is);(case k19=>k_is)
    (case a20=>k_is);(case l20=>k_is);(case c20=>k_is);(case k20=>k_is)
    (case a21=>k_is);(case l21=>k_is);(case c21=>k_is);(case k21=>k_is)
    (case a22=>k_is);(case l22=>k_is);(case c22=>k_is);(case k22=>k_is)
    (case a23=>k_is);(case l23=>k_is);(case c23=>k_is);(case k23=>k_is)
    (case a24=>k_is);(case l24=>k_is);(case c24=>k_is);(case k24=>k_is)
    (case a25=>k_is);(case l25=>k_is);(case c25=>k_is);(case k25=>k_is)
    (case a26=>k_is);(case l26=>k_is);(case c26=>k_is);(case k26=>k_is)
    (case a27=>k_is);(case l27=>k_is);(case c27=>k_is);(case k27=>k_is)
    (case a28=>k_is);(case l28=>k_is);(case c28=>k_is);(case k28=>k_is)
    (case a29=>k_is);(case l29=>k_is);(case c29=>k_is);(case k29=>k_is)
    (case a30=>k_is);(case l30=>k_is);(case c30=>k_is);(case k30=>k_is)
    (case a31=>k_is);(case l31=>k_is);(case c31=>k_is);(case k31=>k_is)
    (case a32=>k_is);(case l32=>k_is);(case c32=>k_is);(case k32=>k_is)
    (case a33=>k_is);(case l33=>k_is);(case c33=>k_is);(case k33=>k_is)
    (case a34=>k_is);(case l34=>k_is);(case c34=>k_is);(case k34=>k_is)
    (case a35=>k_is);(case l35=>k_is);(case c35=>k_is);(case k35=>k_is)
    (case a36=>k_is);(case l36=>k_is);(case c36=>k_is);(case k36=>k_is)
    (case a37=>k_is);(case l37=>k_is);(case c37=>k_is);(case k37=>k_is)
    (case a38=>k_is);(case l38=>k_is);(case c38=>k_is);(case k38=>k_is)
    (case a39=>k_is);(case l39=>k_is);(case c39=>k_is);(case k39=>k_is)
    (case a40=>k_is);(case l40=>k_is);(case c40=>k_is);(case k40=>k_is)
    (case a41=>k_is);(case l41=>k_is);(case c41=>k_is);(case k41=>k_is)
    (case x1=>k_is)
    (case x2=>k_is)
    (case x3=>k_is)
    (case x4=>k_is)
    (case x5=>k_is)
    (case x6=>k_is)
    (case x7=>k_is)
    (case x8=>first|kernel_rfl|decide +kernel)
    (case kk_MOST_WORDS=>k_is)
    (case z1=>k_is)
    (case z2=>k_is)
    (case z3=>k_is)
    (case z4=>k_is)
    (case z5=>k_is)
    (case z6=>k_is)
    (case z7=>k_is)
    (case z8=>k_is)
    (case z9=>k_is)
    (case z10=>k_is)
    (case z11=>k_is)
    (case z12=>k_is)
    (case z13=>k_is)
    (case z14=>k_is)
    (case z15=>k_is)
    (case z16=>k_is)
    (case z17=>k_is)
    (case z18=>k_is)
    (case z19=>k_is)
    (case z20=>k_is)
    (case z21=>k_is)
#print axioms PySem.Challenge.cw_roundwords_k22_too_many_words_holds
end
