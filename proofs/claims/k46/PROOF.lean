import PyProof.Rows.All
import Wide.All
import OpenK.AllK
import Wide.FinOn
import Lean
import PyProof.EqAt
import PyProof.EqKinds
import PyProof.TupleCall
import KE.KUnpack
import PyProof.ListRange
import PyProof.TupleOfGen
import PyProof.NeKinds
import KE.KRevIter
import PyProof.FactsAll.range_2
import KE.KTryMore
import PyProof.IsRules
import PyProof.IsInstanceH
import PyProof.ReprRoads
import PyProof.CallStr
import PySem.Challenge.RW_roundwords_k46_lost_shown
set_option Elab.async false
set_option linter.all false
set_option maxRecDepth 100000
set_option maxHeartbeats 4000000
noncomputable section
local macro_rules|`(tactic|trivial)=>`(tactic|first|exact .inl rfl|exact .inr rfl|assumption)
theorem yg0:PySem.Challenge.rw_roundwords_k46_lost_shown.wellSaid=true:=by decide +kernel
section
-- text: PpList
namespace L2
open PySem PySem.Spec PyProof.Rows
abbrev Key:=Sum Int Str
def yeI:Key→Value→Bool
  | .inl k,v=>Value.isInt k v
  | .inr x,v=>Value.isStrOf x v
def keyH (w:World):Key→Int
  | .inl k=>hashInt k
  | .inr x=>hashStr w x
theorem yaG:∀ {k:Key} {v:Value},yeI k v=true→(∃i t,k=Sum.inl i∧v=Value.int i t)∨(∃x t,k=Sum.inr x∧v=Value.str x t)
  | .inl i,v,h=>by
    obtain ⟨t,e⟩:=Value.isInt_shape (k:=i) (v:=v) h
    exact .inl ⟨i,t,rfl,e⟩
  | .inr x,v,h=>by
    obtain ⟨t,e⟩:=Value.isStrOf_shape (x:=x) (v:=v) h
    exact .inr ⟨x,t,rfl,e⟩
theorem zfm (i:Int) (t:Tok):yeI (.inl i) (.int i t)=true:=by simp [yeI,Value.isInt]
theorem ze0 (x:Str) (t:Tok):yeI (.inr x) (.str x t)=true:=by simp [yeI,Value.isStrOf]
theorem yg9 (a b:Int):decide ((Sum.inl a:Key)=Sum.inl b)=(a==b):=by
  by_cases e:a=b
  · subst e;simp
  · have h:¬ (Sum.inl a:Key)=Sum.inl b:=fun q=>e (Sum.inl.inj q)
    rw [decide_eq_false h]
    exact (beq_eq_false_iff_ne.mpr e).symm
theorem zhh (a b:Str):decide ((Sum.inr a:Key)=Sum.inr b)=decide (a=b):=by
  by_cases e:a=b
  · subst e;simp
  · have h:¬ (Sum.inr a:Key)=Sum.inr b:=fun q=>e (Sum.inr.inj q)
    rw [decide_eq_false h,decide_eq_false e]
theorem zg5 (a:Int) (b:Str):decide ((Sum.inl a:Key)=Sum.inr b)=false:=decide_eq_false (fun q=>nomatch q)
theorem yhd (a:Str) (b:Int):decide ((Sum.inr a:Key)=Sum.inl b)=false:=decide_eq_false (fun q=>nomatch q)
def yaP (prog:Program) (w:World):PySem.KeyKind prog w Key where
  is:=yeI
  hash:=keyH w
  inj:=fun v a b ha hb=>by
    rcases yaG ha with ⟨i,t,rfl,rfl⟩ | ⟨x,t,rfl,rfl⟩
    · rcases yaG hb with ⟨j,u,rfl,e⟩ | ⟨y,u,rfl,e⟩
      · injection e with e1 _;rw [e1]
      · exact nomatch e
    · rcases yaG hb with ⟨j,u,rfl,e⟩ | ⟨y,u,rfl,e⟩
      · exact nomatch e
      · injection e with e1 _;rw [e1]
  byValue:=fun k v h=>by
    rcases yaG h with ⟨i,t,rfl,rfl⟩ | ⟨x,t,rfl,rfl⟩ <;> rfl
  pyHash:=fun hv h=>by
    rcases yaG hv with ⟨i,t,rfl,rfl⟩ | ⟨x,t,rfl,rfl⟩
    · exact wpAny_pyHash_int h
    · exact wpAny_pyHash_str h
  eqBool:=fun hu hv h=>by
    rcases yaG hu with ⟨i,t,rfl,rfl⟩ | ⟨x,t,rfl,rfl⟩
    · rcases yaG hv with ⟨j,u,rfl,rfl⟩ | ⟨y,u,rfl,rfl⟩
      · rw [yg9] at h;exact wpAny_eqBool_int h
      · rw [zg5] at h;exact SeqAt.EqAt.int_str i t y u _ _ _ _ h
    · rcases yaG hv with ⟨j,u,rfl,rfl⟩ | ⟨y,u,rfl,rfl⟩
      · rw [yhd] at h;exact SeqAt.EqAt.str_int x t j u _ _ _ _ h
      · rw [zhh] at h;exact wpAny_eqBool_str h
  «strs»:=fun k x t v h=>by
    rcases yaG h with ⟨i,u,rfl,e⟩ | ⟨y,u,rfl,e⟩
    · exact nomatch e
    · injection e with e1 _
      subst e1
      cases v <;> rfl
theorem zec (prog:Program) (w:World) (i:Int) (t:Tok):(yaP prog w).is (.inl i) (.int i t)=true:=zfm i t
theorem zd7 (prog:Program) (w:World) (x:Str) (t:Tok):(yaP prog w).is (.inr x) (.str x t)=true:=ze0 x t
end L2
namespace L2
open PySem PySem.Spec PyProof.Rows
inductive V where
  | non|bl (b:Bool)|int (i:Int)|str (x:Str)|byt (b:Array UInt8)|flt (b:UInt64)|ref (a:Addr)|ty (n:String)
  deriving DecidableEq
def RelV:V→Value→Prop
  | .non,u=>u=Value.none
  | .bl b,u=>u=Value.bool b
  | .int i,u=>∃t,u=Value.int i t
  | .str x,u=>∃t,u=Value.str x t
  | .byt b,u=>∃t,u=Value.bytes b t
  | .flt b,u=>∃t,u=Value.float b t
  | .ref a,u=>u=Value.ref a
  | .ty n,u=>u=Value.type n
abbrev Vals:List V→List Value→Prop:=Paired RelV
theorem Vals.length {xs:List V} {us:List Value} (r:Vals xs us):xs.length=us.length:=Paired.length r
theorem Vals.get:∀ {xs:List V} {us:List Value} {i:Nat} {x:V},Vals xs us→xs[i]?=some x→∃u,us[i]?=some u∧RelV x u
  | _,_,_,_,.nil,e=>by simp at e
  | _,_,0,_,.cons r _,e=>by simp at e;subst e;exact ⟨_,rfl,r⟩
  | _,_,i+1,x,.cons _ t,e=>by
    obtain ⟨u,h1,h2⟩:=Vals.get (i:=i) (x:=x) t (by simpa using e)
    exact ⟨u,by simpa using h1,h2⟩
theorem Vals.set {x:V} {u:Value} (r:RelV x u):∀ {xs:List V} {us:List Value} (i:Nat),Vals xs us→Vals (xs.set i x) (us.set i u)
  | _,_,_,.nil=>.nil
  | _,_,0,.cons _ t=>.cons r t
  | _,_,i+1,.cons q t=>.cons q (Vals.set r i t)
theorem Vals.append:∀ {xs ys:List V} {us ws:List Value},Vals xs us→Vals ys ws→Vals (xs++ys) (us++ws)
  | _,_,_,_,.nil,s=>s
  | _,_,_,_,.cons r t,s=>.cons r (Vals.append t s)
theorem Vals.take:∀ {xs:List V} {us:List Value} (n:Nat),Vals xs us→Vals (xs.take n) (us.take n)
  | _,_,0,_=>.nil
  | _,_,_+1,.nil=>.nil
  | _,_,n+1,.cons r t=>.cons r (Vals.take n t)
theorem Vals.drop:∀ {xs:List V} {us:List Value} (n:Nat),Vals xs us→Vals (xs.drop n) (us.drop n)
  | _,_,0,r=>r
  | _,_,_+1,.nil=>.nil
  | _,_,n+1,.cons _ t=>Vals.drop n t
def RelO:Option V→Option Value→Prop
  | some v,some u=>RelV v u
  | none,none=>True
  | _,_=>False
def KV {κ:Type}:List (κ×V)→List (κ×Value)→Prop:=Paired fun (p:κ×V) (q:κ×Value)=>p.1=q.1∧RelV p.2 q.2
def kV:Key→V
  | .inl i=>.int i
  | .inr x=>.str x
inductive HO where
  | lst (xs:List V)
  | tup (xs:List V)
  | dK (kvs:List (Key×V))|dT (kvs:List (List Key×V))
  | set (S:Int→Bool) (n:Nat)
  | ins (C dx:Addr) (fs:List (Str×V))
  | own (x:Addr)
  | xd (fs:List (Str×V))
  | met (f x:Addr)
  | rng (lo hi:Int)
  | frz (o:Obj) (u:HO)
  | tbl (ps:Array Value)
  | ext (φ:Heap→Prop)
abbrev Hp:=Addr→Option HO
def upd (H:Hp) (a:Addr) (o:HO):Hp:=fun b=>if b=a then some o else H b
theorem zab {H:Hp} {a:Addr} {o:HO}:upd H a o a=some o:=by unfold upd;rw [if_pos rfl]
theorem yag {H:Hp} {a b:Addr} {o:HO} (h:b≠a):upd H a o b=H b:=by unfold upd;rw [if_neg h]
theorem zd6 {H:Hp} {a:Addr} {o u:HO}:upd (upd H a o) a u=upd H a u:=by
  funext b;unfold upd;split <;> rfl
theorem zaf {H:Hp} {a b:Addr} {o:HO} (h:H a=some o) (h':H b=none):a≠b:=by
  intro e;subst e;rw [h] at h';cases h'
section
variable (P:Program) (w:World)
def ybr (H:Hp) (h:Heap) (a:Addr):HO→Prop
  | .lst xs=>xs.length≤sizeLine∧∃(its:List Value) (n:Nat),Vals xs its∧h.get? a=some { cls:=.type "list",data:=.seq its.toArray n }
  | .tup xs=>xs.length≤sizeLine∧∃its:List Value,Vals xs its∧IsTup h a its.toArray
  | .dK kvs=>kvs.length≤sizeLine∧(a==sysModules)=false∧∃vs,KV kvs vs∧h.DictOf (yaP P w) a vs
  | .dT kvs=>kvs.length≤sizeLine∧(a==sysModules)=false∧∃xs:List (List Key×Addr×Value),
      Paired (fun (p:List Key×V) (q:List Key×Addr×Value)=>p.1=q.1∧H q.2.1=some (.tup (p.1.map kV))∧RelV p.2 q.2.2) kvs xs∧
      ∃o es ep,h.get? a=some o∧o.ExactDict∧o.data = .dict es ep∧es.toList=xs.map (entryOfKey (tupleKind (yaP P w)))∧(xs.map (·.1)).Nodup
  | .set S n=>h.SetOf (intKind P w) a S n
  | .ins C dx fs=>H dx=some (.own a)∧fs.length≤1000∧dx≠a∧h.get? a=some (PySem.W.instObj C dx)∧
      ∃mA,h.Ns1 dx mA∧(∀f,RelO (fs.lookup f) (mA f))∧PySem.Within mA (fs.map (·.1))
  | .own _=>∃o,h.get? a=some o
  | .xd fs=>∃mA,h.Ns1 a mA∧∀f,RelO (fs.lookup f) (mA f)
  | .rng lo hi=>∃t u v,h.get? a=some { cls:=.type "range",data:=.fields #[.int lo t,.int hi u,.int 1 v] }
  | .frz o u=>h.get? a=some o∧ybr H h a u
  | .tbl ps=>h.get? a=some { cls:=.none,data:=.fields ps }
  | .met f x=>h.get? a=some (PySem.W.methodObj (.ref f) (.ref x))
  | .ext φ=>φ h∧(∃o,h.get? a=some o)∧∀h1 h2:Heap,φ h1→(∀o,h1.get? a=some o→h2.get? a=some o)→φ h2
def HOk (H:Hp) (h:Heap):Prop:=∀a o,H a=some o→ybr P w H h a o
end
section
variable {P:Program} {w:World} {H H':Hp} {h h':Heap} {a:Addr} {o:HO}
theorem ybr.lt (x:ybr P w H h a o):a<h.objs.size:=by
  cases o with
  | lst xs=>obtain ⟨_,_,_,_,e⟩:=x;exact Heap.lt_size e
  | tup xs=>obtain ⟨_,_,_,p⟩:=x;exact p.lt
  | dK kvs=>obtain ⟨_,_,_,_,o,_,_,e,_⟩:=x;exact Heap.lt_size e
  | dT kvs=>obtain ⟨_,_,_,_,o,_,_,e,_⟩:=x;exact Heap.lt_size e
  | set S n=>obtain ⟨o,_,_,_,e,_⟩:=x;exact Heap.lt_size e
  | ins C dx fs=>obtain ⟨_,_,_,e,_⟩:=x;exact Heap.lt_size e
  | own y=>obtain ⟨_,e⟩:=x;exact Heap.lt_size e
  | xd fs=>obtain ⟨_,⟨_,_,_,e,_⟩,_⟩:=x;exact Heap.lt_size e
  | rng lo hi=>obtain ⟨_,_,_,e⟩:=x;exact Heap.lt_size e
  | frz ob u=>obtain ⟨e,_⟩:=x;exact Heap.lt_size e
  | tbl ps=>exact Heap.lt_size (show h.get? a=some _ from x)
  | met f y=>exact Heap.lt_size (show h.get? a=some _ from x)
  | ext φ=>obtain ⟨_,⟨_,e⟩,_⟩:=x;exact Heap.lt_size e
theorem Paired.mapP {α β:Type} {F G:α→β→Prop}:∀ {l₁:List α} {l₂:List β},Paired F l₁ l₂→(∀a b,F a b→G a b)→Paired G l₁ l₂
  | _,_,.nil,_=>.nil
  | _,_,.cons r t,f=>.cons (f _ _ r) (Paired.mapP t f)
theorem ybr.stay (x:ybr P w H h a o) (k:∀b u,(b=a∨H b=some (.own a))→h.get? b=some u→h'.get? b=some u)
    (ho:∀b,H b=some (.own a)→H' b=some (.own a)) (ht:∀b xs,H b=some (.tup xs)→H' b=some (.tup xs)):ybr P w H' h' a o:=by
  induction o with
  | lst xs=>obtain ⟨z,its,n,r,e⟩:=x;exact ⟨z,its,n,r,k _ _ (.inl rfl) e⟩
  | tup xs=>obtain ⟨z,its,r,ob,e,c⟩:=x;exact ⟨z,its,r,ob,k _ _ (.inl rfl) e,c⟩
  | dK kvs=>obtain ⟨z,y,vs,r,ob,es,ep,e,c⟩:=x;exact ⟨z,y,vs,r,ob,es,ep,k _ _ (.inl rfl) e,c⟩
  | dT kvs =>
    obtain ⟨z,y,xs,r,ob,es,ep,e,c⟩:=x
    exact ⟨z,y,xs,Paired.mapP r fun p q z=>⟨z.1,ht _ _ z.2.1,z.2.2⟩,ob,es,ep,k _ _ (.inl rfl) e,c⟩
  | set S n=>obtain ⟨ob,es,ep,t,e,c⟩:=x;exact ⟨ob,es,ep,t,k _ _ (.inl rfl) e,c⟩
  | ins C dx fs =>
    obtain ⟨d,z,ne,e,mA,⟨od,es,ep,e2,c⟩,r⟩:=x
    exact ⟨ho _ d,z,ne,k _ _ (.inl rfl) e,mA,⟨od,es,ep,k _ _ (.inr d) e2,c⟩,r⟩
  | own y=>obtain ⟨ob,e⟩:=x;exact ⟨ob,k _ _ (.inl rfl) e⟩
  | xd fs=>obtain ⟨mA,⟨od,es,ep,e,c⟩,r⟩:=x;exact ⟨mA,⟨od,es,ep,k _ _ (.inl rfl) e,c⟩,r⟩
  | rng lo hi=>obtain ⟨t,u,v,e⟩:=x;exact ⟨t,u,v,k _ _ (.inl rfl) e⟩
  | frz ob u ih=>obtain ⟨e,q⟩:=x;exact ⟨k _ _ (.inl rfl) e,ih q⟩
  | tbl ps =>
    have e:h.get? a=some { cls:=.none,data:=.fields ps }:=x
    show h'.get? a=some { cls:=.none,data:=.fields ps }
    exact k a _ (.inl rfl) e
  | met f y =>
    have e:h.get? a=some (PySem.W.methodObj (.ref f) (.ref y)):=x
    show h'.get? a=some (PySem.W.methodObj (.ref f) (.ref y))
    exact k a _ (.inl rfl) e
  | ext φ=>obtain ⟨p,⟨o,e⟩,st⟩:=x;exact ⟨st _ _ p fun o q=>k _ _ (.inl rfl) q,⟨o,k _ _ (.inl rfl) e⟩,st⟩
theorem HOk.lt (x:HOk P w H h) (e:H a=some o):a<h.objs.size:=(x a o e).lt
theorem HOk.fresh (x:HOk P w H h) (e:h.objs.size≤a):H a=none:=by
  cases q:H a with
  | none=>rfl
  | some u=>exact absurd (Nat.lt_of_lt_of_le (x.lt q) e) (Nat.lt_irrefl _)
theorem HOk.kept (x:HOk P w H h) (k:∀b u,h.get? b=some u→h'.get? b=some u):HOk P w H h':=fun a o e =>
  (x a o e).stay (fun b u _ q=>k b u q) (fun _ q=>q) fun _ _ q=>q
theorem HOk.laid (x:HOk P w H h) (k:∀b u,h.get? b=some u→h'.get? b=some u) (hp:h.objs.size≤a) (new:ybr P w (upd H a o) h' a o):HOk P w (upd H a o) h':=fun b u e=>by
  have hn:=x.fresh hp
  by_cases hb:b=a
  · subst hb;rw [zab] at e;cases e;exact new
  · rw [yag hb] at e
    exact (x b u e).stay (fun c v _ q=>k c v q) (fun c q=>by rw [yag (zaf q hn)];exact q) fun c xs q=>by rw [yag (zaf q hn)];exact q
end
def Rd (H:Hp) (a:Addr) (u:HO):Prop:=H a=some u∨∃o,H a=some (.frz o u)
theorem Rd.ok {P:Program} {w:World} {H:Hp} {h:Heap} {a:Addr} {u:HO} (r:Rd H a u) (x:HOk P w H h):ybr P w H h a u:=by
  rcases r with r | ⟨o,r⟩
  · exact x a u r
  · obtain ⟨_,q⟩:=x a _ r
    exact q
def Mut:Option HO→Prop
  | some (.lst _)=>True
  | some (.dK _)=>True
  | some (.dT _)=>True
  | some (.set _ _)=>True
  | some (.ins _ _ _)=>True
  | some (.ext _)=>True
  | _=>False
section
variable {P:Program} {w:World} {H:Hp} {h h':Heap} {x e:Addr} {o':HO}
theorem HOk.write (ok:HOk P w H h) (mu:Mut (H x)) (he:e=x∨H e=some (.own x)) (k:∀b u,b≠e→h.get? b=some u→h'.get? b=some u) (heo:∃u,h'.get? e=some u)
    (new:ybr P w (upd H x o') h' x o'):HOk P w (upd H x o') h':=fun b u q=>by
  have nown:∀c y,H c=some (.own y)→c≠x:=fun c y r z=>by subst z;rw [r] at mu;exact mu
  have ntup:∀c xs,H c=some (.tup xs)→c≠x:=fun c xs r z=>by subst z;rw [r] at mu;exact mu
  by_cases hb:b=x
  · subst hb;rw [zab] at q;cases q;exact new
  · rw [yag hb] at q
    by_cases hbe:b=e
    · have q':H b=some (.own x):=by
        rcases he with z|z
        · exact absurd (hbe.trans z) hb
        · rw [hbe];exact z
      rw [q] at q';cases q'
      obtain ⟨v,hv⟩:=heo
      exact ⟨v,by rw [hbe];exact hv⟩
    · refine (ok b u q).stay (fun c v hc r=>k c v ?_ r) (fun c r=>by rw [yag (nown c b r)];exact r) fun c xs r=>by rw [yag (ntup c xs r)];exact r
      rcases hc with rfl|hc
      · exact hbe
      · rintro rfl
        rcases he with z|z
        · exact nown c b hc z
        · rw [hc] at z;cases z;exact hb rfl
end
structure Un (fs ex:List Addr) (H H':Hp) (h h':Heap):Prop where
  keep:∀b o,h.get? b=some o→H b=none→b∉fs→b∉ex→h'.get? b=some o
  slot:∀b o,h.get? b=some o→H b=none→b∈fs→b∉ex→∃sl,h'.get? b=some { o with slots:=sl }
  free:∀b o,h.get? b=some o→H b=none→b∉ex→H' b=none
  there:∀b o,h.get? b=some o→b∉ex→∃o',h'.get? b=some o'
  tups:∀b xs,H b=some (.tup xs)→H' b=some (.tup xs)
  frzs:∀b o u,H b=some (.frz o u)→H' b=some (.frz o u)
  tbls:∀b ps,H b=some (.tbl ps)→∃more,H' b=some (.tbl (ps++more))
section
variable {fs fs' ex ex':List Addr} {H H1 H2:Hp} {h h1 h2 h':Heap} {a x e:Addr} {o:HO}
theorem Un.any (u:Un fs ex H H1 h h1) {b:Addr} {ob:Obj} (q:h.get? b=some ob) (n:H b=none) (hx:b∉ex):∃sl,h1.get? b=some { ob with slots:=sl }:=by
  by_cases hb:b∈fs
  · exact u.slot b ob q n hb hx
  · exact ⟨ob.slots,u.keep b ob q n hb hx⟩
theorem Un.kept (k:∀b u,h.get? b=some u→h'.get? b=some u):Un fs ex H H h h' :=
  ⟨fun b ob q _ _ _=>k b ob q,fun b ob q _ _ _=>⟨ob.slots,k b ob q⟩,fun _ _ _ n _=>n,fun b ob q _=>⟨ob,k b ob q⟩,fun _ _ q=>q,fun _ _ _ q=>q,fun _ ps q=>⟨#[],by rw [q];simp⟩⟩
theorem Un.refl:Un fs ex H H h h:=Un.kept fun _ _ q=>q
theorem Un.laid (k:∀b u,h.get? b=some u→h'.get? b=some u) (hp:h.objs.size≤a) (hn:H a=none):Un fs ex H (upd H a o) h h' where
  keep:=fun b u q _ _ _=>k b u q
  slot:=fun b u q _ _ _=>⟨u.slots,k b u q⟩
  free:=fun b u q n _=>by rw [yag (Nat.ne_of_lt (Nat.lt_of_lt_of_le (Heap.lt_size q) hp))];exact n
  there:=fun b u q _=>⟨u,k b u q⟩
  tups:=fun b xs q=>by rw [yag (zaf q hn)];exact q
  frzs:=fun b u xs q=>by rw [yag (zaf q hn)];exact q
  tbls:=fun b ps q=>⟨#[],by rw [yag (zaf q hn),q];simp⟩
theorem Un.write (mu:Mut (H x)) (he:e=x∨H e=some (.own x)) (k:∀b u,b≠e→h.get? b=some u→h'.get? b=some u) (heo:∃u,h'.get? e=some u):Un fs ex H (upd H x o) h h':=by
  have hx:∀b,H b=none→b≠x:=fun b n z=>by subst z;rw [n] at mu;exact mu
  have hb:∀b,H b=none→b≠e:=fun b n z=>by
    subst z
    rcases he with r|r
    · exact hx b n r
    · rw [n] at r;cases r
  have hm:∀b u,H b=some u→¬ Mut (some u)→b≠x:=fun b u q nm z=>by subst z;rw [q] at mu;exact nm mu
  refine ⟨fun b u q n _ _=>k b u (hb b n) q,fun b u q n _ _=>⟨u.slots,k b u (hb b n) q⟩,fun b u q n _=>by rw [yag (hx b n)];exact n,fun b u q _=>?_,
    fun b xs q=>by rw [yag (hm b _ q fun z=>z)];exact q,fun b u xs q=>by rw [yag (hm b _ q fun z=>z)];exact q,fun b ps q=>⟨#[],by rw [yag (hm b _ q fun z=>z),q];simp⟩⟩
  by_cases hbe:b=e
  · subst hbe;exact heo
  · exact ⟨u,k b u hbe q⟩
end
def trk (h:Heap) (H:Hp):List Addr:=(List.range h.objs.size).filter fun a=>(H a).isSome
def hidT (h:Heap) (H:Hp):Heap:=PySem.W.hideAll h (trk h H)
theorem zfO (h:Heap) (H:Hp):(hidT h H).objs.size=h.objs.size:=PySem.W.hideAll_size _ _
theorem yfZ {h:Heap} {H:Hp} {b:Addr} {o:Obj} (e:h.get? b=some o) (n:H b=none):(hidT h H).get? b=some o :=
  PySem.W.hideAll_get _ e fun hm=>by
    have q:(H b).isSome=true:=(List.mem_filter.mp hm).2
    rw [n] at q;simp at q
theorem zgB {h:Heap} {H:Hp} {b:Addr} {o:Obj} (e:(hidT h H).get? b=some o):h.get? b=some o∧H b=none:=by
  have e':h.get? b=some o:=PySem.W.of_hideAll (trk h H) e
  refine ⟨e',?_⟩
  cases q:H b with
  | none=>rfl
  | some x =>
    have hm:b∈trk h H:=List.mem_filter.mpr ⟨List.mem_range.mpr (Heap.lt_size e'),by simp [q]⟩
    have z:(hidT h H).get? b=none:=PySem.W.hideAll_none (trk h H) hm
    rw [z] at e;cases e
end L2
namespace L2
open PySem PySem.Spec PyProof.Rows
structure Mod (K:PySem.W.Frag) (mg:Str→Option Value) (base:Heap):Prop where
  kin:K.In base
  glob:base.Ns mainGlobals mg
  blt:∃mb,base.Ns builtinsNs mb∧∀x:Str,x≠"__name__"→mb x=bootBuiltins x
  nolimit:base.NoLimit
structure Cx where
  prog:Program
  w:World
  K:PySem.W.Frag
  mg:Str→Option Value
  base:Heap
  A:Around
  N:List Str
  s₀:Shared
  H₀:Hp
  env:Env
  outer:List Env
  stack:List Env
  ex:List Addr
  fn:Str→Bool
  calm:Bool
  pn:List (Addr×Obj)
  xe:Value→Shared→Prop
def frs (l:List Env):List Addr:=l.filterMap (·.frame)
abbrev Cx.fs (X:Cx):List Addr:=frs X.outer
def Vis (sc:Scope) (x:Str):Prop:=sc.names.lookup x=some .local∨sc.names.lookup x=some .cell∨sc.names.lookup x=some .free
def Loc (sc:Scope) (x:Str):Prop:=sc.names.lookup x=some .local∨sc.names.lookup x=some .cell
def Look (env:Env) (h:Heap) (m:Str→Option Value) (x:Str) (u:Value):Prop :=
  (env.kindOf x=some .local∧m x=some u)∨((env.kindOf x=some .cell∨env.kindOf x=some .free)∧∃c,env.cells.lookup x=some c∧h.IsCell c (some u))
structure Cx.Ok (X:Cx):Prop where
  mod:Mod X.K X.mg X.base
  kind:X.env.scope.kind = .function
  glob:X.env.globals=mainGlobals
  blt:X.env.builtins=builtinsNs
  above:X.s₀.heap.objs.size≤X.env.locals
  inj:∀x y c,X.env.cells.lookup x=some c→X.env.cells.lookup y=some c→x=y
  has:∀x,(X.env.kindOf x=some .cell∨X.env.kindOf x=some .free)→∃c,X.env.cells.lookup x=some c
  cab:∀x c,X.fn x=true→X.env.cells.lookup x=some c→X.s₀.heap.objs.size≤c
  hd:X.calm=true→X.A.handled=none
  frames:X.A.frames=some X.stack
  stk:X.stack=X.outer∨(X.stack=X.env::X.outer∧X.env.frame=some X.env.locals)
  exf:∀b∈X.ex,b≠X.env.locals∧∀x c,X.env.cells.lookup x=some c→c≠b
  bs:∀b o,X.base.get? b=some o→X.s₀.heap.get? b=some o∧X.H₀ b=none
  bsz:X.base.objs.size≤X.s₀.heap.objs.size
  noex:∀b o,X.base.get? b=some o→b∉X.ex
  exfs:∀b∈X.ex,b∉X.fs
  funs:X.s₀.heap.FunFrames X.base X.outer
  frf:∀b∈X.fs,X.H₀ b=none
structure Inv (X:Cx) (pins:List (Addr×Obj)) (σ:List (Option V)) (H:Hp) (s:Shared):Prop where
  ok:X.Ok
  os:s.os=X.s₀.os
  bare:AllBare s.gens
  base:Un X.fs X.ex X.H₀ H X.s₀.heap s.heap
  loc:∃m,s.heap.Ns X.env.locals m∧∀(i:Nat) (x:Str) (v:V),X.N[i]?=some x→σ[i]?=some (some v)→Vis X.env.scope x→∃u,RelV v u∧Look X.env s.heap m x u
  cell:∀x c,X.env.cells.lookup x=some c→∃v,s.heap.IsCell c v
  free:H X.env.locals=none
  freeC:∀x c,X.env.cells.lookup x=some c→H c=none
  pin:∀p∈X.pn++pins,s.heap.get? p.1=some p.2∧H p.1=none∧p.1≠X.env.locals∧p.1∉X.fs∧∀v,p.2.data≠.cell v
  hok:HOk X.prog X.w H s.heap
  len:σ.length=X.N.length
section
variable {X:Cx} {pins:List (Addr×Obj)} {σ:List (Option V)} {H H':Hp} {s:Shared} {h':Heap}
theorem Cx.Ok.nofr (ok:X.Ok) {b:Addr} {o:Obj} (e:X.base.get? b=some o):b∉X.fs:=fun hb=>by
  have:=(ok.funs.mem hb).1
  rw [e] at this;cases this
theorem Inv.bs (I:Inv X pins σ H s):∀b o,X.base.get? b=some o→s.heap.get? b=some o∧H b=none:=fun b o e =>
  ⟨I.base.keep b o (I.ok.bs b o e).1 (I.ok.bs b o e).2 (I.ok.nofr e) (I.ok.noex b o e),I.base.free b o (I.ok.bs b o e).1 (I.ok.bs b o e).2 (I.ok.noex b o e)⟩
theorem Inv.bk (I:Inv X pins σ H s):∀b o,X.base.get? b=some o→s.heap.get? b=some o:=fun b o e=>(I.bs b o e).1
theorem Inv.mod (I:Inv X pins σ H s):Mod X.K X.mg X.base:=I.ok.mod
theorem Inv.kIn (I:Inv X pins σ H s):X.K.In s.heap:=I.ok.mod.kin.keeps I.bk
theorem Inv.lt (I:Inv X pins σ H s):X.env.locals<s.heap.objs.size:=let ⟨_,hn,_⟩:=I.loc;hn.lt
theorem Inv.sz (I:Inv X pins σ H s):X.s₀.heap.objs.size≤s.heap.objs.size:=Nat.le_trans I.ok.above (Nat.le_of_lt I.lt)
theorem Inv.nofs (I:Inv X pins σ H s) {a:Addr} (h:s.heap.objs.size≤a):a∉X.fs:=fun hb=>by
  obtain ⟨_,o,ho,_⟩:=I.ok.funs.mem hb
  exact absurd (Nat.lt_of_lt_of_le (Heap.lt_size ho) (Nat.le_trans I.sz h)) (Nat.lt_irrefl _)
theorem Inv.cne (I:Inv X pins σ H s):∀x c,X.env.cells.lookup x=some c→c≠X.env.locals:=fun x c e z=>by
  obtain ⟨v,o,ho,hd⟩:=I.cell x c e
  obtain ⟨m,⟨o',es,ep,ho',hd',_⟩,_⟩:=I.loc
  rw [z,ho'] at ho;cases ho;rw [hd'] at hd;cases hd
theorem Inv.funs (I:Inv X pins σ H s):s.heap.FunFrames X.base X.outer:=by
  have all:∀(l:List Env),(∀b∈frs l,b∈X.fs)→X.s₀.heap.FunFrames X.base l→s.heap.FunFrames X.base l:=by
    intro l
    induction l with
    | nil=>intro _ _;trivial
    | cons env r ih =>
      intro hs hl
      obtain ⟨hk,⟨L,o,hf,hn,ho,hd⟩,hr⟩:=hl
      have hL:L∈X.fs:=hs L (by unfold frs;rw [List.filterMap_cons,hf];exact List.mem_cons_self)
      obtain ⟨sl,e⟩:=I.base.slot L o ho (I.ok.frf L hL) hL fun z=>I.ok.exfs L z hL
      exact ⟨hk,⟨L,_,hf,hn,e,hd⟩,ih (fun b hb=>hs b (by unfold frs;rw [List.filterMap_cons,hf];exact List.mem_cons_of_mem _ hb)) hr⟩
  exact all X.outer (fun _ hb=>hb) I.ok.funs
theorem Inv.stack (I:Inv X pins σ H s):s.heap.FunFrames X.base X.stack:=by
  rcases I.ok.stk with e | ⟨e,hf⟩
  · rw [e];exact I.funs
  · rw [e]
    obtain ⟨m,hn,_⟩:=I.loc
    refine .cons (by rw [I.ok.kind];decide) hf hn ?_ I.funs
    exact Heap.get?_none_of_le (Nat.le_trans I.ok.bsz I.ok.above)
theorem Inv.stkSub (I:Inv X pins σ H s):∀b∈frs X.stack,b∈X.env.locals::X.fs:=fun b hb=>by
  rcases I.ok.stk with e | ⟨e,hf⟩
  · rw [e] at hb;exact List.mem_cons_of_mem _ hb
  · rw [e] at hb
    unfold frs at hb
    rw [List.filterMap_cons,hf] at hb
    exact hb
theorem Inv.stkFree (I:Inv X pins σ H s):∀b∈frs X.stack,H b=none:=fun b hb=>by
  rcases List.mem_cons.mp (I.stkSub b hb) with e|hb
  · rw [e];exact I.free
  · obtain ⟨_,o,ho,_⟩:=I.ok.funs.mem hb
    exact I.base.free b o ho (I.ok.frf b hb) fun z=>I.ok.exfs b z hb
theorem Inv.step {g':Array GenState} {t':Nat} {d':Drawn} {ch:List Addr} (I:Inv X pins σ H s)
    (hch:∀b∈ch,(b∈X.ex∨X.s₀.heap.objs.size≤b)∧b≠X.env.locals∧(∀x c,X.env.cells.lookup x=some c→c≠b)∧∀p∈X.pn++pins,p.1≠b)
    (keep:∀b o,b≠X.env.locals→b∉X.fs→b∉ch→s.heap.get? b=some o→H b=none→h'.get? b=some o)
    (slot:∀b o,b≠X.env.locals→b∈X.fs→b∉ch→s.heap.get? b=some o→H b=none→∃sl,h'.get? b=some { o with slots:=sl }) (free:∀b o,b∉ch→s.heap.get? b=some o→H b=none→H' b=none)
    (there:∀b o,b∉ch→s.heap.get? b=some o→∃o',h'.get? b=some o')
    (tups:∀b xs,H b=some (.tup xs)→H' b=some (.tup xs)) (frzs:∀b o u,H b=some (.frz o u)→H' b=some (.frz o u)) (tbls:∀b ps,H b=some (.tbl ps)→∃more,H' b=some (.tbl (ps++more)))
    (ns:∀m,s.heap.Ns X.env.locals m→h'.Ns X.env.locals m) (hok:HOk X.prog X.w H' h') (hg:AllBare g') :
    Inv X pins σ H' { s with heap:=h',gens:=g',drawn:=d',toks:=t' }:=by
  have neL:∀b o,X.s₀.heap.get? b=some o→b≠X.env.locals:=fun b o e=>Nat.ne_of_lt (Nat.lt_of_lt_of_le (Heap.lt_size e) I.ok.above)
  have neC:∀b o,X.s₀.heap.get? b=some o→b∉X.ex→b∉ch:=fun b o e hx hb=>by
    rcases (hch b hb).1 with z|z
    · exact hx z
    · exact absurd (Nat.lt_of_lt_of_le (Heap.lt_size e) z) (Nat.lt_irrefl _)
  have cellK:∀x c,X.env.cells.lookup x=some c→∀v,s.heap.IsCell c v→h'.IsCell c v:=fun x c e v ⟨o,ho,hd⟩=>by
    have nch:c∉ch:=fun z=>(hch c z).2.2.1 x c e rfl
    by_cases hc:c∈X.fs
    · obtain ⟨sl,q⟩:=slot c o (I.cne x c e) hc nch ho (I.freeC x c e)
      exact ⟨_,q,hd⟩
    · exact ⟨o,keep c o (I.cne x c e) hc nch ho (I.freeC x c e),hd⟩
  refine ⟨I.ok,I.os,hg,⟨fun b o e n hb hx=>?_,fun b o e n hb hx=>?_,fun b o e n hx=>?_,fun b o e hx=>?_,fun b xs e=>tups b xs (I.base.tups b xs e),fun b o xs e=>frzs b o xs (I.base.frzs b o xs e),fun b ps e=>?_⟩,?_,fun x c e=>?_,?_,fun x c e=>?_,fun p hp=>?_,hok,I.len⟩
  · exact keep b o (neL b o e) hb (neC b o e hx) (I.base.keep b o e n hb hx) (I.base.free b o e n hx)
  · obtain ⟨sl,e1⟩:=I.base.slot b o e n hb hx
    obtain ⟨sl',e2⟩:=slot b _ (neL b o e) hb (neC b o e hx) e1 (I.base.free b o e n hx)
    exact ⟨sl',e2⟩
  · obtain ⟨o',e1⟩:=I.base.there b o e hx
    exact free b o' (neC b o e hx) e1 (I.base.free b o e n hx)
  · obtain ⟨o',e1⟩:=I.base.there b o e hx
    exact there b o' (neC b o e hx) e1
  · obtain ⟨m1,e1⟩:=I.base.tbls b ps e
    obtain ⟨m2,e2⟩:=tbls b _ e1
    exact ⟨m1++m2,by rw [e2,Array.append_assoc]⟩
  · obtain ⟨m,hn,hl⟩:=I.loc
    refine ⟨m,ns m hn,fun i x v e1 e2 e3=>?_⟩
    obtain ⟨u,r,l⟩:=hl i x v e1 e2 e3
    refine ⟨u,r,?_⟩
    rcases l with l | ⟨k,c,e,z⟩
    · exact .inl l
    · exact .inr ⟨k,c,e,cellK x c e _ z⟩
  · obtain ⟨v,z⟩:=I.cell x c e
    exact ⟨v,cellK x c e v z⟩
  · obtain ⟨m,⟨o,_,_,ho,_⟩,_⟩:=I.loc
    exact free _ o (fun z=>(hch _ z).2.1 rfl) ho I.free
  · obtain ⟨v,o,ho,hd⟩:=I.cell x c e
    exact free c o (fun z=>(hch c z).2.2.1 x c e rfl) ho (I.freeC x c e)
  · obtain ⟨e,n,ne,nf,d⟩:=I.pin p hp
    have nch:p.1∉ch:=fun z=>(hch p.1 z).2.2.2 p hp rfl
    exact ⟨keep p.1 p.2 ne nf nch e n,free p.1 p.2 nch e n,ne,nf,d⟩
theorem Inv.un {t':Nat} (I:Inv X pins σ H s) (u:Un X.fs [] H H' s.heap h') (hok:HOk X.prog X.w H' h'):Inv X pins σ H' { s with heap:=h',toks:=t' }:=by
  obtain ⟨m,⟨o,es,ep,ho,r⟩,_⟩:=id I.loc
  obtain ⟨sl,hL⟩:=u.any ho I.free (by simp)
  exact I.step (g':=s.gens) (d':=s.drawn) (ch:=[]) (fun _ z=>nomatch z) (fun b o _ hb _ e n=>u.keep b o e n hb (by simp)) (fun b o _ hb _ e n=>u.slot b o e n hb (by simp)) (fun b o _ e n=>u.free b o e n (by simp)) (fun b o _ e=>u.there b o e (by simp)) u.tups u.frzs u.tbls (fun m' hm=>by
    obtain ⟨o',es',ep',ho',r'⟩:=hm
    rw [ho] at ho';cases ho'
    exact ⟨_,es',ep',hL,r'⟩) hok I.bare
theorem Inv.call {g':Array GenState} {t':Nat} {d':Drawn} {ch:List Addr} (I:Inv X pins σ H s) (u:Un (frs X.stack) ch H H' s.heap h') (hok:HOk X.prog X.w H' h') (hg:AllBare g')
    (hch:∀b∈ch,(b∈X.ex∨X.s₀.heap.objs.size≤b)∧b≠X.env.locals∧(∀x c,X.env.cells.lookup x=some c→c≠b)∧∀p∈X.pn++pins,p.1≠b) :
    Inv X pins σ H' { s with heap:=h',gens:=g',drawn:=d',toks:=t' }:=by
  obtain ⟨m,⟨o,es,ep,ho,r⟩,_⟩:=id I.loc
  obtain ⟨sl,hL⟩:=u.any ho I.free fun z=>(hch _ z).2.1 rfl
  exact I.step (ch:=ch) hch (fun b o hL hb hc e n=>u.keep b o e n (fun z=>(List.mem_cons.mp (I.stkSub b z)).elim hL hb) hc) (fun b o _ _ hc e n=>u.any e n hc) (fun b o hc e n=>u.free b o e n hc) (fun b o hc e=>u.there b o e hc) u.tups u.frzs u.tbls (fun m' hm=>by
    obtain ⟨o',es',ep',ho',r'⟩:=hm
    rw [ho] at ho';cases ho'
    exact ⟨_,es',ep',hL,r'⟩) hok hg
theorem Inv.turned {t':Nat} {it:Addr} (I:Inv X pins σ H s) (k:∀b o,b≠it→s.heap.get? b=some o→h'.get? b=some o) (hn:H it=none) (hL:it≠X.env.locals)
    (h1:it∈X.ex∨X.s₀.heap.objs.size≤it) (h2:∀x c,X.env.cells.lookup x=some c→c≠it) (h3:∀p∈X.pn++pins,p.1≠it):Inv X pins σ H { s with heap:=h',toks:=t' }:=by
  have nit:∀b u,H b=some u→b≠it:=fun b u e z=>by rw [z,hn] at e;cases e
  refine I.step (g':=s.gens) (d':=s.drawn) (ch:=[it]) (fun b hb=>?_) (fun b o _ _ hc e _=>k b o (fun z=>hc (by simp [z])) e) (fun b o _ _ hc e _=>⟨o.slots,k b o (fun z=>hc (by simp [z])) e⟩) (fun _ _ _ _ n=>n)
    (fun b o hc e=>⟨o,k b o (fun z=>hc (by simp [z])) e⟩) (fun _ _ e=>e) (fun _ _ _ e=>e) (fun b ps e=>⟨#[],by rw [e];simp⟩) (fun m hm=>?_) (fun b u e=>?_) I.bare
  · have e:b=it:=by simpa using hb
    subst e
    exact ⟨h1,hL,h2,h3⟩
  · obtain ⟨o,es,ep,ho,r⟩:=hm
    exact ⟨o,es,ep,k _ o (Ne.symm hL) ho,r⟩
  · refine (I.hok b u e).stay (fun c v hc q=>k c v ?_ q) (fun _ q=>q) fun _ _ q=>q
    rcases hc with z|z
    · rw [z];exact nit b u e
    · exact nit c _ z
theorem Inv.tok (I:Inv X pins σ H s) (t:Nat):Inv X pins σ H { s with toks:=t }:=I.un (h':=s.heap) (t':=t) Un.refl I.hok
theorem Inv.kept {t':Nat} (I:Inv X pins σ H s) (k:∀b u,s.heap.get? b=some u→h'.get? b=some u):Inv X pins σ H { s with heap:=h',toks:=t' }:=I.un (Un.kept k) (I.hok.kept k)
theorem Inv.laid {a:Addr} {o:HO} {t':Nat} (I:Inv X pins σ H s) (k:∀b u,s.heap.get? b=some u→h'.get? b=some u) (hp:s.heap.objs.size≤a) (new:ybr X.prog X.w (upd H a o) h' a o) :
    Inv X pins σ (upd H a o) { s with heap:=h',toks:=t' }:=I.un (Un.laid k hp (I.hok.fresh hp)) (I.hok.laid k hp new)
theorem Inv.write {x e:Addr} {o:HO} {t':Nat} (I:Inv X pins σ H s) (mu:Mut (H x)) (he:e=x∨H e=some (.own x)) (k:∀b u,b≠e→s.heap.get? b=some u→h'.get? b=some u) (heo:∃u,h'.get? e=some u)
    (new:ybr X.prog X.w (upd H x o) h' x o):Inv X pins σ (upd H x o) { s with heap:=h',toks:=t' }:=I.un (Un.write mu he k heo) (I.hok.write mu he k heo new)
theorem Inv.pins_of {pins':List (Addr×Obj)} (I:Inv X pins σ H s) (h:∀p∈pins',s.heap.get? p.1=some p.2∧H p.1=none∧p.1≠X.env.locals∧p.1∉X.fs∧∀v,p.2.data≠.cell v):Inv X pins' σ H s :=
  ⟨I.ok,I.os,I.bare,I.base,I.loc,I.cell,I.free,I.freeC,fun p hp=>(List.mem_append.mp hp).elim (fun z=>I.pin p (List.mem_append_left _ z)) (h p),I.hok,I.len⟩
theorem yev {N:List Str} (hN:N.Nodup) {i j:Nat} {x:Str} (a:N[i]?=some x) (b:N[j]?=some x):i=j:=by
  obtain ⟨h1,e1⟩:=List.getElem?_eq_some_iff.mp a
  obtain ⟨h2,e2⟩:=List.getElem?_eq_some_iff.mp b
  exact (List.getElem_inj hN).mp (e1.trans e2.symm)
theorem zfB {M:Model} {A:Around} {E:Value→Shared→Prop} {i:Nat} {x:Str} {v:V} {u:Value} {Q:Unit→Shared→Prop} (I:Inv X pins σ H s) (hN:X.N.Nodup) (hi:X.N[i]?=some x) (hx:Loc X.env.scope x) (r:RelV v u)
    (h:∀s',Inv X pins (σ.set i (some v)) H s'→(∃a,Heap.SameBut a s.heap s'.heap∧(a=X.env.locals∨X.env.cells.lookup x=some a))→Q () s') (hf:X.fn x=true∨X.env.scope.names.lookup x=some .local:=by first|exact .inl rfl|exact .inr rfl|assumption):wpAny M A (storeName X.env x u) Q E s:=by
  obtain ⟨m,hn,hl⟩:=id I.loc
  have hcls:(X.env.scope.kind==.class||(X.env.scope.kind==.module&&X.env.locals != X.env.globals))=false:=by rw [I.ok.kind];rfl
  have hiσ:i < σ.length:=by rw [I.len];exact (List.getElem?_eq_some_iff.mp hi).1
  have cne:=I.cne
  have tracked:∀ {a:Addr} {h':Heap},(∃o,s.heap.get? a=some o∧H a=none)→Heap.SameBut a s.heap h'→HOk X.prog X.w H h':=fun {a h'} ha hs b ob e=>by
    obtain ⟨_,_,hfree⟩:=ha
    refine (I.hok b ob e).stay (fun c w' hc q=>(hs.2 c ?_).trans q) (fun _ q=>q) fun _ _ q=>q
    rintro rfl
    rcases hc with rfl|hc
    · rw [hfree] at e;cases e
    · rw [hfree] at hc;cases hc
  rcases hx with hk|hk
  · refine wpAny_storeName_local hk hn (fun h' hn' hs=>?_) hcls
    obtain ⟨oL,_,_,hoL,_⟩:=id hn
    refine h _ ⟨I.ok,I.os,I.bare,⟨fun b o e n hb hx=>?_,fun b o e n hb hx=>?_,I.base.free,fun b o e hx=>?_,I.base.tups,I.base.frzs,I.base.tbls⟩,⟨_,hn',fun j y v' e1 e2 e3=>?_⟩,fun y c e=>?_,I.free,I.freeC,fun p hp=>?_,tracked ⟨oL,hoL,I.free⟩ hs,by simpa using I.len⟩ ⟨_,hs,.inl rfl⟩
    · exact (hs.2 b (Nat.ne_of_lt (Nat.lt_of_lt_of_le (Heap.lt_size e) I.ok.above))).trans (I.base.keep b o e n hb hx)
    · obtain ⟨sl,e1⟩:=I.base.slot b o e n hb hx
      exact ⟨sl,(hs.2 b (Nat.ne_of_lt (Nat.lt_of_lt_of_le (Heap.lt_size e) I.ok.above))).trans e1⟩
    · obtain ⟨o',e1⟩:=I.base.there b o e hx
      exact ⟨o',(hs.2 b (Nat.ne_of_lt (Nat.lt_of_lt_of_le (Heap.lt_size e) I.ok.above))).trans e1⟩
    · by_cases hj:j=i
      · subst hj
        rw [hi] at e1;cases e1
        rw [List.getElem?_set_self hiσ] at e2
        cases e2
        exact ⟨u,r,.inl ⟨hk,by simp⟩⟩
      · rw [List.getElem?_set_ne (Ne.symm hj)] at e2
        obtain ⟨u',r',q⟩:=hl j y v' e1 e2 e3
        refine ⟨u',r',?_⟩
        rcases q with ⟨k,e⟩ | ⟨k,c,e,z⟩
        · refine .inl ⟨k,?_⟩
          have:y≠x:=fun e=>hj (yev hN e1 (e ▸ hi))
          simp [this,e]
        · exact .inr ⟨k,c,e,z.sameBut hs (cne y c e)⟩
    · obtain ⟨w',z⟩:=I.cell y c e
      exact ⟨w',z.sameBut hs (cne y c e)⟩
    · obtain ⟨e,n,ne,nf,d⟩:=I.pin p hp
      exact ⟨(hs.2 p.1 ne).trans e,n,ne,nf,d⟩
  · have hfn:X.fn x=true:=by
      rcases hf with z|z
      · exact z
      · rw [z] at hk;cases hk
    obtain ⟨c,hc⟩:=I.ok.has x (.inl hk)
    obtain ⟨w',z⟩:=I.cell x c hc
    refine wpAny_storeName_cell I.ok.kind hk hc z (fun h' hc' hs=>?_)
    obtain ⟨oc,hoc,hocd⟩:=id z
    refine h { s with heap:=h' } ⟨I.ok,I.os,I.bare,⟨fun b o e n hb hx=>?_,fun b o e n hb hx=>?_,I.base.free,fun b o e hx=>?_,I.base.tups,I.base.frzs,I.base.tbls⟩,⟨m,hn.sameBut hs (Ne.symm (cne x c hc)),fun j y v' e1 e2 e3=>?_⟩,fun y c' e=>?_,I.free,I.freeC,fun p hp=>?_,tracked ⟨oc,hoc,I.freeC x c hc⟩ hs,by simpa using I.len⟩ ⟨c,hs,.inr hc⟩
    · exact (hs.2 b (Nat.ne_of_lt (Nat.lt_of_lt_of_le (Heap.lt_size e) (I.ok.cab x c hfn hc)))).trans (I.base.keep b o e n hb hx)
    · obtain ⟨sl,e1⟩:=I.base.slot b o e n hb hx
      exact ⟨sl,(hs.2 b (Nat.ne_of_lt (Nat.lt_of_lt_of_le (Heap.lt_size e) (I.ok.cab x c hfn hc)))).trans e1⟩
    · obtain ⟨o',e1⟩:=I.base.there b o e hx
      exact ⟨o',(hs.2 b (Nat.ne_of_lt (Nat.lt_of_lt_of_le (Heap.lt_size e) (I.ok.cab x c hfn hc)))).trans e1⟩
    · by_cases hj:j=i
      · subst hj
        rw [hi] at e1;cases e1
        rw [List.getElem?_set_self hiσ] at e2
        cases e2
        exact ⟨u,r,.inr ⟨.inl hk,c,hc,hc'⟩⟩
      · rw [List.getElem?_set_ne (Ne.symm hj)] at e2
        obtain ⟨u',r',q⟩:=hl j y v' e1 e2 e3
        refine ⟨u',r',?_⟩
        rcases q with q | ⟨k,c',e,z'⟩
        · exact .inl q
        · refine .inr ⟨k,c',e,z'.sameBut hs ?_⟩
          rintro rfl
          exact hj (yev hN e1 (I.ok.inj _ _ _ e hc ▸ hi))
    · by_cases hcc:c'=c
      · subst hcc;exact ⟨_,hc'⟩
      · obtain ⟨w2,z2⟩:=I.cell y c' e
        exact ⟨w2,z2.sameBut hs hcc⟩
    · obtain ⟨e,n,ne,nf,d⟩:=I.pin p hp
      refine ⟨(hs.2 p.1 ?_).trans e,n,ne,nf,d⟩
      intro q
      rw [q,hoc] at e
      have q':oc=p.2:=Option.some.inj e
      exact d w' (by rw [←q'];exact hocd)
theorem zbj {M:Model} {A:Around} {E:Value→Shared→Prop} {i:Nat} {x:Str} {v:V} {u:Value} {Q:Unit→Shared→Prop} (I:Inv X pins σ H s) (hN:X.N.Nodup) (hi:X.N[i]?=some x) (hx:Loc X.env.scope x) (r:RelV v u)
    (h:∀s',Inv X pins (σ.set i (some v)) H s'→Q () s') (hf:X.fn x=true∨X.env.scope.names.lookup x=some .local:=by first|exact .inl rfl|exact .inr rfl|assumption):wpAny M A (storeName X.env x u) Q E s :=
  zfB I hN hi hx r (fun s' I' _=>h s' I') hf
theorem Inv.call' {s':Shared} {ch:List Addr} (I:Inv X pins σ H s) (ho:s'.os=s.os) (u:Un (frs X.stack) ch H H' s.heap s'.heap) (hok:HOk X.prog X.w H' s'.heap) (hg:AllBare s'.gens)
    (hch:∀b∈ch,(b∈X.ex∨X.s₀.heap.objs.size≤b)∧b≠X.env.locals∧(∀x c,X.env.cells.lookup x=some c→c≠b)∧∀p∈X.pn++pins,p.1≠b):Inv X pins σ H' s':=by
  obtain ⟨h',g',d',t',o'⟩:=s'
  have e:o'=s.os:=ho
  subst e
  exact I.call (g':=g') (t':=t') (d':=d') u hok hg hch
end
abbrev XK:=Value→Option Addr→Hp→Prop
abbrev St:=List (Option V)
abbrev VK:=V→Hp→Prop
abbrev TE:=St→Hp→VK→Prop
abbrev TT:=St→Hp→(Bool→Hp→Prop)→Prop
abbrev TA:=St→Hp→(List V→Hp→Prop)→Prop
structure Ends where
  nx:St→Hp→Prop
  rt:VK
  bk:St→Hp→Prop:=fun _ _=>False
  ct:St→Hp→Prop:=fun _ _=>False
abbrev TS:=Ends→St→Hp→Prop
def EP (X:Cx) (pins:List (Addr×Obj)) (σ:St) (Q:VK) (u:Value) (s':Shared):Prop:=∃v H',Inv X pins σ H' s'∧RelV v u∧Q v H'
def TP (X:Cx) (pins:List (Addr×Obj)) (σ:St) (Q:Bool→Hp→Prop) (b:Bool) (s':Shared):Prop:=∃H',Inv X pins σ H' s'∧Q b H'
def AP (X:Cx) (pins:List (Addr×Obj)) (σ:St) (Q:List V→Hp→Prop) (us:List Value) (s':Shared):Prop:=∃vs H',Inv X pins σ H' s'∧Vals vs us∧Q vs H'
def SP (X:Cx) (pins:List (Addr×Obj)) (D:Ends) (f:Flow) (s':Shared):Prop :=
  match f with
  | .next=>∃σ' H',Inv X pins σ' H' s'∧D.nx σ' H'
  | .brk=>∃σ' H',Inv X pins σ' H' s'∧D.bk σ' H'
  | .cont=>∃σ' H',Inv X pins σ' H' s'∧D.ct σ' H'
  | .ret u=>∃v σ' H',Inv X pins σ' H' s'∧RelV v u∧D.rt v H'
def PE (X:Cx) (e:Expr) (t:TE):Prop :=
  ∀(pins:List (Addr×Obj)) (s:Shared) (σ:St) (H:Hp) (Q:VK),Inv X pins σ H s→t σ H Q→wpAny (model X.prog X.w) X.A (eval e X.env) (EP X pins σ Q) X.xe s
def PT (X:Cx) (e:Expr) (t:TT):Prop :=
  ∀(pins:List (Addr×Obj)) (s:Shared) (σ:St) (H:Hp) (Q:Bool→Hp→Prop),Inv X pins σ H s→t σ H Q→wpAny (model X.prog X.w) X.A (isTrue e X.env (eval e X.env)) (TP X pins σ Q) X.xe s
def PW (X:Cx) (e:Expr) (t:TT):Prop :=
  ∀(whole:Sem Value) (pins:List (Addr×Obj)) (s:Shared) (σ:St) (H:Hp) (Q:Bool→Hp→Prop),Inv X pins σ H s→t σ H Q→wpAny (model X.prog X.w) X.A (isTrue e X.env whole) (TP X pins σ Q) X.xe s
theorem PW.pt {X:Cx} {e:Expr} {t:TT} (h:PW X e t):PT X e t:=h _
def PA (X:Cx) (es:List Expr) (t:TA):Prop :=
  ∀(pos:Pos) (pins:List (Addr×Obj)) (s:Shared) (σ:St) (H:Hp) (Q:List V→Hp→Prop),Inv X pins σ H s→t σ H Q→wpAny (model X.prog X.w) X.A (spliced (backTo pos (starEach es X.env))) (AP X pins σ Q) X.xe s
def PS (X:Cx) (st:Stmt) (t:TS):Prop :=
  ∀(pins:List (Addr×Obj)) (s:Shared) (σ:St) (H:Hp) (D:Ends),Inv X pins σ H s→t D σ H→wpAny (model X.prog X.w) X.A (exec st X.env) (SP X pins D) X.xe s
def PSs (X:Cx) (st:List Stmt) (t:TS):Prop :=
  ∀(pins:List (Addr×Obj)) (s:Shared) (σ:St) (H:Hp) (D:Ends),Inv X pins σ H s→t D σ H→wpAny (model X.prog X.w) X.A (execs st X.env) (SP X pins D) X.xe s
theorem thn {α:Type} {t:Sem α} {Q Q':α→Shared→Prop} {M:Model} {A:Around} {E:Value→Shared→Prop} {s:Shared} (h:wpAny M A t Q E s) (hQ:∀a s,Q a s→Q' a s):wpAny M A t Q' E s:=wpAny_mono h hQ fun _ _ x=>x
end L2
namespace L2
open PySem PySem.Spec PyProof.Rows
section
variable {X:Cx}
theorem bin {a b:Expr} {ta tb:TE} (ha:PE X a ta) (hb:PE X b tb) {pins:List (Addr×Obj)} {s:Shared} {σ:St} {H:Hp} {R:V→V→Hp→Prop} (I:Inv X pins σ H s) (h:ta σ H fun x H1=>tb σ H1 fun y H2=>R x y H2)
    {α:Type} {Q:α→Shared→Prop} {f:Value→Value→Sem α}
    (hf:∀v u s2 x y H2,Inv X pins σ H2 s2→RelV x v→RelV y u→R x y H2→wpAny (model X.prog X.w) X.A (f v u) Q X.xe s2) :
    wpAny (model X.prog X.w) X.A (eval a X.env) (fun v s₁=>wpAny (model X.prog X.w) X.A (eval b X.env) (fun u s₂=>wpAny (model X.prog X.w) X.A (f v u) Q X.xe s₂) X.xe s₁) X.xe s:=by
  refine thn (ha pins s σ H _ I h) fun v s1 ⟨x,H1,I1,r1,q1⟩=>?_
  refine thn (hb pins s1 σ H1 _ I1 q1) fun u s2 ⟨y,H2,I2,r2,q2⟩=>?_
  exact hf v u s2 x y H2 I2 r1 r2 q2
def tVar (i:Nat):TE:=fun σ H Q=>∃v,σ[i]?=some (some v)∧Q v H
def tC (v:V):TE:=fun _ H Q=>Q v H
theorem zg6 {i:Nat} {x:Str} {pos:Pos} (hN:X.N[i]?=some x) (hv:Vis X.env.scope x) (hd:(x==("__debug__":Str))=false:=by decide) (hcd:(x==("__classdict__":Str))=false:=by decide):PE X (.Name x pos) (tVar i):=by
  intro pins s σ H Q I h
  obtain ⟨v,e,h⟩:=h
  obtain ⟨m,hn,hl⟩:=I.loc
  obtain ⟨u,r,l⟩:=hl i x v hN e hv
  have fin:EP X pins σ Q u s:=⟨v,H,I,r,h⟩
  rcases l with ⟨hk,hm⟩ | ⟨hk,c,hc,hcell⟩
  · exact wpAny_Name (wpAny_loadName_local I.ok.kind hk hn hm fin) hd
  · rcases hk with hk|hk
    · exact wpAny_Name (wpAny_loadName_cell I.ok.kind hk hc hcell fin) hd
    · exact wpAny_Name (wpAny_loadName_free I.ok.kind hk hc hcell fin hcd) hd
theorem yac {i j pos}:PE X (.Constant (.int i) j pos) (tC (.int i)):=fun _ _ _ H _ I h=>wpAny_Constant_int ⟨.int i,H,I.tok _,⟨_,rfl⟩,h⟩
theorem yci {b j pos}:PE X (.Constant (.bool b) j pos) (tC (.bl b)):=fun _ _ _ H _ I h=>Constant_bool ⟨.bl b,H,I,rfl,h⟩
theorem ygt {j pos}:PE X (.Constant .none j pos) (tC .non):=fun _ _ _ H _ I h=>Constant_none ⟨.non,H,I,rfl,h⟩
theorem yaF {x j pos}:PE X (.Constant (.str x) j pos) (tC (.str x)):=fun _ _ _ H _ I h=>Calls.Constant_str ⟨.str x,H,I.tok _,⟨_,rfl⟩,h⟩
def Gl (X:Cx) (x:Str):Prop:=X.env.kindOf x=some .globalImplicit
theorem ygE {E:Value→Shared→Prop} {pins:List (Addr×Obj)} {s:Shared} {σ:St} {H:Hp} {x:Str} {u:Value} {pos:Pos} {Q:Value→Shared→Prop} (I:Inv X pins σ H s) (hg:Gl X x) (hm:X.mg x=some u) (h:Q u s)
    (hd:(x==("__debug__":Str))=false:=by decide):wpAny (model X.prog X.w) X.A (eval (.Name x pos) X.env) Q E s :=
  Calls.Name_function_global I.ok.kind hg (Calls.loadGlobal_global (by rw [I.ok.glob];exact I.mod.glob.keeps I.bk) hm h) hd
theorem ybO {E:Value→Shared→Prop} {pins:List (Addr×Obj)} {s:Shared} {σ:St} {H:Hp} {x:Str} {u:Value} {pos:Pos} {Q:Value→Shared→Prop} (I:Inv X pins σ H s) (hg:Gl X x) (hm:X.mg x=none) (hv:bootBuiltins x=some u) (h:Q u s)
    (hn:x≠"__name__":=by decide) (hd:(x==("__debug__":Str))=false:=by decide):wpAny (model X.prog X.w) X.A (eval (.Name x pos) X.env) Q E s:=by
  obtain ⟨mb,h1,h2⟩:=I.mod.blt
  exact Calls.Name_function_global I.ok.kind hg (Calls.loadGlobal_builtin (by rw [I.ok.glob];exact I.mod.glob.keeps I.bk) hm (by rw [I.ok.blt];exact h1.keeps I.bk) ((h2 x hn).trans hv) h) hd
theorem zdu {x:Str} {v:V} {u:Value} {pos:Pos} (hg:Gl X x) (hm:X.mg x=none) (hv:bootBuiltins x=some u) (r:RelV v u) (hn:x≠"__name__":=by decide) (hd:(x==("__debug__":Str))=false:=by decide):PE X (.Name x pos) (tC v) :=
  fun _ _ _ H _ I h=>ybO I hg hm hv ⟨v,H,I,r,h⟩ hn hd
def t2I (ta tb:TE) (k:Int→Int→Hp→Prop):St→Hp→Prop:=fun σ H=>ta σ H fun x H1=>tb σ H1 fun y H2=>∃i j,x = .int i∧y = .int j∧k i j H2
variable {a b:Expr} {ta tb:TE} {pos:Pos}
def PC (X:Cx) (op:CmpOp) (a b:Expr) (t:TE):Prop :=
  ∀(pins:List (Addr×Obj)) (s:Shared) (σ:St) (H:Hp) (Q:VK),Inv X pins σ H s→t σ H Q→
    wpAny (model X.prog X.w) X.A (eval a X.env) (fun v s₁=>wpAny (model X.prog X.w) X.A (eval b X.env) (fun u s₂=>wpAny (model X.prog X.w) X.A (compareOp op v u) (EP X pins σ Q) X.xe s₂) X.xe s₁) X.xe s
def tCmp (p:Int→Int→Bool) (ta tb:TE):TE:=fun σ H Q=>t2I ta tb (fun i j H2=>Q (.bl (p i j)) H2) σ H
abbrev tLt:TE→TE→TE:=tCmp fun i j=>decide (i<j)
abbrev tLe:TE→TE→TE:=tCmp fun i j=>decide (i≤j)
abbrev tGt:TE→TE→TE:=tCmp fun i j=>decide (j<i)
abbrev tGe:TE→TE→TE:=tCmp fun i j=>decide (j≤i)
abbrev tEqI:TE→TE→TE:=tCmp fun i j=>decide (i=j)
abbrev tNeI:TE→TE→TE:=tCmp fun i j=>!decide (i=j)
def tB (t:TE):TT:=fun σ H Q=>t σ H fun x H1=>∃c,x = .bl c∧Q c H1
theorem zg2 {op:CmpOp} {t:TE} (h:PC X op a b t) (h1:behindInMarks op b=false:=by first|exact nobehind _ (by decide) (by decide)|rfl):PT X (.Compare a [op] [b] pos) (tB t):=by
  intro pins s σ H Q I hw
  refine wpAny_isTrue_Compare1 (thn (h pins s σ H _ I hw) fun v s1 h1=>thn h1 fun u s2 h2=>thn h2 fun c s3 ⟨x,H1,I1,r1,q1⟩=>?_) h1
  obtain ⟨d,rfl,q⟩:=q1
  cases r1
  exact wpAny_truthy_bool ⟨H1,I1,q⟩
theorem zdy {e:Expr} {t:TE} (h:PE X e t) (he:∀whole,isTrue e X.env whole=(do let v ←whole;standAt e.pos;holding [v] (truthy v)):=by intro _;rfl):PT X e (tB t):=by
  intro pins s σ H Q I hw
  refine isTrue_plain (thn (h pins s σ H _ I hw) fun v s1 ⟨x,H1,I1,r1,q1⟩=>?_) (he _)
  obtain ⟨d,rfl,q⟩:=q1
  cases r1
  exact wpAny_truthy_bool ⟨H1,I1,q⟩
variable {tA tB':TT} {rest:List Expr}
def tAnd (t u:TT):TT:=fun σ H Q=>t σ H fun c H1=>if c=true then u σ H1 Q else Q false H1
def tOr (t u:TT):TT:=fun σ H Q=>t σ H fun c H1=>if c=true then Q true H1 else u σ H1 Q
def tNot (t:TT):TT:=fun σ H Q=>t σ H fun c H1=>Q (!c) H1
theorem zea (ha:PT X a tA):PW X (.BoolOp .And [a] pos) tA:=by
  intro wh pins s σ H Q I h
  refine isTrue_and (thn (ha pins s σ H Q I h) fun c s1 e=>?_)
  cases c with
  | true=>exact isTrue_and_nil e
  | false=>exact e
theorem zcJ (ha:PT X a tA):PW X (.BoolOp .Or [a] pos) tA:=by
  intro wh pins s σ H Q I h
  refine isTrue_or (thn (ha pins s σ H Q I h) fun c s1 e=>?_)
  cases c with
  | false=>exact isTrue_or_nil e
  | true=>exact e
theorem zfP (ha:PT X a tA) (hb:PW X (.BoolOp .And (b::rest) pos) tB'):PW X (.BoolOp .And (a::b::rest) pos) (tAnd tA tB'):=by
  intro wh pins s σ H Q I h
  refine isTrue_and (thn (ha pins s σ H _ I h) fun c s1 ⟨H1,I1,q1⟩=>?_)
  cases c with
  | true=>exact hb wh pins s1 σ H1 Q I1 q1
  | false=>exact ⟨H1,I1,q1⟩
theorem yd4 (ha:PT X a tA) (hb:PW X (.BoolOp .Or (b::rest) pos) tB'):PW X (.BoolOp .Or (a::b::rest) pos) (tOr tA tB'):=by
  intro wh pins s σ H Q I h
  refine isTrue_or (thn (ha pins s σ H _ I h) fun c s1 ⟨H1,I1,q1⟩=>?_)
  cases c with
  | true=>exact ⟨H1,I1,q1⟩
  | false=>exact hb wh pins s1 σ H1 Q I1 q1
theorem yep (ha:PT X a tA):PT X (.UnaryOp .Not a pos) (tNot tA):=by
  intro pins s σ H Q I h
  exact isTrue_not (ha pins s σ H (fun c H1=>Q (!c) H1) I h)
def yhp (ta tb:TE):TE:=fun σ H Q=>ta σ H fun x H1=>∃c,x = .bl c∧if c=true then tb σ H1 Q else Q (.bl false) H1
def zhm (ta:TE):TE:=fun σ H Q=>ta σ H fun x H1=>∃c,x = .bl c∧Q (.bl (!c)) H1
theorem yeq {op} {t:TE} (h:PE X a t):PE X (.BoolOp op [a] pos) t:=fun pins s σ H Q I hw=>BoolOp_one (h pins s σ H Q I hw)
theorem zeq (ha:PE X a ta) (hb:PE X (.BoolOp .And (b::rest) pos) tb):PE X (.BoolOp .And (a::b::rest) pos) (yhp ta tb):=by
  intro pins s σ H Q I h
  refine BoolOp_and (thn (ha pins s σ H _ I h) fun v s1 ⟨x,H1,I1,r1,q1⟩=>?_)
  obtain ⟨c,rfl,q1⟩:=q1
  cases r1
  refine wpAny_truthy_bool ?_
  cases c with
  | true=>exact hb pins s1 σ H1 Q I1 q1
  | false=>exact ⟨.bl false,H1,I1,rfl,q1⟩
theorem zhe (ha:PE X a ta):PE X (.UnaryOp .Not a pos) (zhm ta):=by
  intro pins s σ H Q I h
  refine UnaryOp_ (thn (ha pins s σ H _ I h) fun v s1 ⟨x,H1,I1,r1,q1⟩=>?_)
  obtain ⟨c,rfl,q1⟩:=q1
  cases r1
  exact not_of (wpAny_truthy_bool ⟨.bl (!c),H1,I1,rfl,q1⟩)
end
end L2
namespace L2
open PySem PySem.Spec PyProof.Rows
def SqL (K:PySem.W.Frag) (H:Hp) (a:Addr) (xs:List V):Prop :=
  Rd H a (.lst xs)∨
    ∃(o:Obj) (its:Array Value) (n:Nat),K.lookup a=some o∧o.cls = .type "list"∧o.dict=none∧o.data = .seq its n∧its.size≤sizeLine∧Vals xs its.toList
def SqT (K:PySem.W.Frag) (H:Hp) (a:Addr) (xs:List V):Prop :=
  Rd H a (.tup xs)∨
    ∃(o:Obj) (its:Array Value) (n:Nat),K.lookup a=some o∧o.cls = .type "tuple"∧o.data = .seq its n∧its.size≤sizeLine∧Vals xs its.toList
def absV:Value→Option V
  | .none=>some .non
  | .bool b=>some (.bl b)
  | .int i _=>some (.int i)
  | .str x _=>some (.str x)
  | .bytes b _=>some (.byt b)
  | .float b _=>some (.flt b)
  | .ref a=>some (.ref a)
  | .type n=>some (.ty n)
  | _=>none
theorem RelV.abs {x:V} {u:Value} (r:RelV x u):absV u=some x:=by
  cases x with
  | non=>cases r;rfl
  | bl _=>cases r;rfl
  | int _=>obtain ⟨t,rfl⟩:=r;rfl
  | str _=>obtain ⟨t,rfl⟩:=r;rfl
  | byt _=>obtain ⟨t,rfl⟩:=r;rfl
  | flt _=>obtain ⟨t,rfl⟩:=r;rfl
  | ref _=>cases r;rfl
  | ty _=>cases r;rfl
theorem RelV.inj {x y:V} {u:Value} (r:RelV x u) (q:RelV y u):x=y:=Option.some.inj (r.abs.symm.trans q.abs)
theorem Vals.inj:∀ {xs ys:List V} {us:List Value},Vals xs us→Vals ys us→xs=ys
  | _,_,_,.nil,.nil=>rfl
  | _,_,_,.cons r t,.cons r' t'=>by rw [r.inj r',Vals.inj t t']
section
variable {X:Cx} {pins:List (Addr×Obj)} {σ:St} {H:Hp} {s:Shared} {a:Addr} {xs ys:List V}
theorem SqL.of {K:PySem.W.Frag} (h:H a=some (.lst xs)):SqL K H a xs:=.inl (.inl h)
theorem SqT.of {K:PySem.W.Frag} (h:H a=some (.tup xs)):SqT K H a xs:=.inl (.inl h)
theorem Inv.list (I:Inv X pins σ H s) (h:SqL X.K H a xs):∃its:List Value,Vals xs its∧PlainL s.heap a its.toArray∧xs.length≤sizeLine:=by
  rcases h with h | ⟨o,its,n,hk,hc,hd,hs,hz,r⟩
  · obtain ⟨z,its,n,r,e⟩:=h.ok I.hok
    exact ⟨its,r,⟨_,n,e,rfl,rfl,rfl⟩,z⟩
  · refine ⟨its.toList,r,⟨o,n,I.kIn a o hk,hc,hd,by simpa using hs⟩,?_⟩
    have e:=r.length
    simp only [Array.length_toList] at e
    omega
theorem Inv.tuple (I:Inv X pins σ H s) (h:SqT X.K H a xs):∃its:List Value,Vals xs its∧IsTup s.heap a its.toArray∧xs.length≤sizeLine:=by
  rcases h with h | ⟨o,its,n,hk,hc,hs,hz,r⟩
  · obtain ⟨z,its,r,p⟩:=h.ok I.hok
    exact ⟨its,r,p,z⟩
  · refine ⟨its.toList,r,⟨o,I.kIn a o hk,hc,n,by simpa using hs⟩,?_⟩
    have e:=r.length
    simp only [Array.length_toList] at e
    omega
theorem Inv.list_inj (I:Inv X pins σ H s) (h:SqL X.K H a xs) (h':SqL X.K H a ys):xs=ys:=by
  obtain ⟨its,r,⟨o,n,e,_,_,d⟩,_⟩:=I.list h
  obtain ⟨its',r',⟨o',n',e',_,_,d'⟩,_⟩:=I.list h'
  rw [e] at e';cases e'
  rw [d] at d'
  injection d' with d1 _
  have:its=its':=by simpa using congrArg Array.toList d1
  subst this
  exact r.inj r'
theorem Inv.tuple_inj (I:Inv X pins σ H s) (h:SqT X.K H a xs) (h':SqT X.K H a ys):xs=ys:=by
  obtain ⟨its,r,⟨o,e,_,n,d⟩,_⟩:=I.tuple h
  obtain ⟨its',r',⟨o',e',_,n',d'⟩,_⟩:=I.tuple h'
  rw [e] at e';cases e'
  rw [d] at d'
  injection d' with d1 _
  have:its=its':=by simpa using congrArg Array.toList d1
  subst this
  exact r.inj r'
end
abbrev Cx.wish (X:Cx) (E:Value→Shared→Prop):Cx:={ X with xe:=E }
abbrev Cx.nox (X:Cx):Cx:=X.wish fun _ _=>False
theorem Cx.Ok.wish {X:Cx} (ok:X.Ok) (E:Value→Shared→Prop):(X.wish E).Ok :=
  ⟨ok.mod,ok.kind,ok.glob,ok.blt,ok.above,ok.inj,ok.has,ok.cab,ok.hd,ok.frames,ok.stk,ok.exf,ok.bs,ok.bsz,ok.noex,ok.exfs,ok.funs,ok.frf⟩
theorem Cx.Ok.unwish {X:Cx} {E:Value→Shared→Prop} (ok:(X.wish E).Ok):X.Ok :=
  ⟨ok.mod,ok.kind,ok.glob,ok.blt,ok.above,ok.inj,ok.has,ok.cab,ok.hd,ok.frames,ok.stk,ok.exf,ok.bs,ok.bsz,ok.noex,ok.exfs,ok.funs,ok.frf⟩
section
variable {X:Cx} {pins:List (Addr×Obj)} {σ:St} {H:Hp} {s:Shared} {E:Value→Shared→Prop}
theorem Inv.wish (I:Inv X pins σ H s) (E:Value→Shared→Prop):Inv (X.wish E) pins σ H s:=⟨I.ok.wish E,I.os,I.bare,I.base,I.loc,I.cell,I.free,I.freeC,I.pin,I.hok,I.len⟩
theorem Inv.unwish (I:Inv (X.wish E) pins σ H s):Inv X pins σ H s:=⟨I.ok.unwish,I.os,I.bare,I.base,I.loc,I.cell,I.free,I.freeC,I.pin,I.hok,I.len⟩
theorem SP.unwish {D:Ends} {f:Flow} {s':Shared} (h:SP (X.wish E) pins D f s'):SP X pins D f s':=by
  cases f with
  | next=>obtain ⟨σ',H',I,q⟩:=h;exact ⟨σ',H',I.unwish,q⟩
  | brk=>obtain ⟨σ',H',I,q⟩:=h;exact ⟨σ',H',I.unwish,q⟩
  | cont=>obtain ⟨σ',H',I,q⟩:=h;exact ⟨σ',H',I.unwish,q⟩
  | ret u=>obtain ⟨v,σ',H',I,r,q⟩:=h;exact ⟨v,σ',H',I.unwish,r,q⟩
theorem PSs.nox {st:List Stmt} {t:TS} (h:PSs X.nox st t):PSs X st t:=fun pins s σ H D I hw =>
  wpAny_mono (h pins s σ H D (I.wish _) hw) (fun _ _ q=>q.unwish) fun _ _ z=>False.elim z
end
section
variable {X:Cx} {st:Stmt} {rest:List Stmt} {t u:TS} {e:Expr} {te:TE} {pos:Pos}
def ze9:TS:=fun D σ H=>D.nx σ H
def tSeq (t u:TS):TS:=fun D σ H=>t { D with nx:=u D } σ H
theorem zax:PSs X [] ze9:=fun _ _ σ H _ I h=>wpAny_execs_nil ⟨σ,H,I,h⟩
theorem yab (h1:PS X st t) (h2:PSs X rest u):PSs X (st::rest) (tSeq t u):=by
  intro pins s σ H D I h
  refine wpAny_execs_cons (thn (h1 pins s σ H { D with nx:=u D } I h) fun f s1 q=>?_)
  cases f with
  | next =>
    obtain ⟨σ',H',I',q⟩:=q
    exact h2 pins s1 σ' H' D I' q
  | ret v=>exact q
  | brk=>exact q
  | cont=>exact q
theorem zae (h1:PS X st t):PSs X [st] t:=by
  intro pins s σ H D I h
  refine wpAny_execs_cons (thn (h1 pins s σ H D I h) fun f s1 q=>?_)
  cases f with
  | next=>exact wpAny_execs_nil q
  | ret v=>exact q
  | brk=>exact q
  | cont=>exact q
theorem Inv.quiet {pins:List (Addr×Obj)} {σ:St} {H:Hp} {s:Shared} (I:Inv X pins σ H s):interactive X.env=false:=by simp [interactive,I.ok.kind]
def yhs (te:TE):TS:=fun D σ H=>te σ H fun _ H1=>D.nx σ H1
theorem ybV (he:PE X e te) (hs:swapsWith e none pos.line X.env=pure false:=by rfl):PS X (.Expr e pos) (yhs te):=by
  intro pins s σ H D I h
  exact wpAny_Expr_any (thn (he pins s σ H _ I h) fun v s1 ⟨x,H1,I1,r1,q1⟩=>⟨σ,H1,I1,q1⟩) I.quiet hs
def tRet (te:TE):TS:=fun D σ H=>te σ H D.rt
theorem zal (he:PE X e te):PS X (.Return (some e) pos) (tRet te):=by
  intro pins s σ H D I h
  exact wpAny_Return_some (thn (he pins s σ H _ I h) fun v s1 ⟨x,H1,I1,r1,q1⟩=>⟨x,σ,H1,I1,r1,q1⟩)
def tIfS (c:TT) (t u:TS):TS:=fun D σ H=>c σ H fun b H1=>if b=true then t D σ H1 else u D σ H1
theorem yba {c:Expr} {a b:List Stmt} {tc:TT} (hc:PT X c tc) (ha:PSs X a t) (hb:PSs X b u):PS X (.If c a b pos) (tIfS tc t u):=by
  intro pins s σ H D I h
  refine wpAny_If (thn (hc pins s σ H _ I h) fun d s1 ⟨H1,I1,q1⟩=>?_)
  cases d with
  | true=>exact ha pins s1 σ H1 D I1 q1
  | false=>exact hb pins s1 σ H1 D I1 q1
end
abbrev TG:=V→St→Hp→(St→Hp→Prop)→Prop
abbrev TGs:=List V→St→Hp→(St→Hp→Prop)→Prop
def PG (X:Cx) (target:Expr) (t:TG):Prop :=
  ∀(pins:List (Addr×Obj)) (s:Shared) (σ:St) (H:Hp) (v:V) (u:Value) (Q:St→Hp→Prop),Inv X pins σ H s→RelV v u→t v σ H Q→
    wpAny (model X.prog X.w) X.A (assign target X.env u) (fun _ s'=>∃σ' H',Inv X pins σ' H' s'∧Q σ' H') X.xe s
def PGs (X:Cx) (ts:List Expr) (t:TGs):Prop :=
  ∀(pins:List (Addr×Obj)) (s:Shared) (σ:St) (H:Hp) (vs:List V) (us:List Value) (Q:St→Hp→Prop),Inv X pins σ H s→Vals vs us→t vs σ H Q→
    wpAny (model X.prog X.w) X.A (assignInOrder ((assignEach ts X.env).map (·.2)) us) (fun _ s'=>∃σ' H',Inv X pins σ' H' s'∧Q σ' H') X.xe s
abbrev TSet:=V→V→V→Hp→(Hp→Prop)→Prop
def PSet (X:Cx) (t:TSet):Prop :=
  ∀(pins:List (Addr×Obj)) (s:Shared) (σ:St) (H:Hp) (o i v:V) (ov iv u:Value) (Q:Hp→Prop),Inv X pins σ H s→RelV o ov→RelV i iv→RelV v u→t o i v H Q→
    wpAny (model X.prog X.w) X.A (setItem ov iv u) (fun _ s'=>∃H',Inv X pins σ H' s'∧Q H') X.xe s
abbrev TIp:=V→V→Hp→VK→Prop
def PIp (X:Cx) (op:Operator) (t:TIp):Prop :=
  ∀(pins:List (Addr×Obj)) (s:Shared) (σ:St) (H:Hp) (x y:V) (v u:Value) (Q:VK),Inv X pins σ H s→RelV x v→RelV y u→t x y H Q→
    wpAny (model X.prog X.w) X.A (inplaceOp op v u) (EP X pins σ Q) X.xe s
section
variable {X:Cx} {pos:Pos}
def zau (i:Nat):TG:=fun v σ H Q=>Q (σ.set i (some v)) H
theorem yae {i:Nat} {x:Str} (hN:X.N.Nodup) (hi:X.N[i]?=some x) (hx:Loc X.env.scope x) (hf:X.fn x=true∨X.env.scope.names.lookup x=some .local:=by first|exact .inl rfl|exact .inr rfl|assumption):PG X (.Name x pos) (zau i):=by
  intro pins s σ H v u Q I r h
  exact wpAny_assign_Name (zbj I hN hi hx r (fun s' I'=>⟨_,H,I',h⟩) hf)
def gNil:TGs:=fun vs σ H Q=>vs=[]∧Q σ H
def yhx (t:TG) (u:TGs):TGs:=fun vs σ H Q=>∃v r,vs=v::r∧t v σ H fun σ' H'=>u r σ' H' Q
theorem yaH:PGs X [] gNil:=by
  intro pins s σ H vs us Q I r h
  obtain ⟨e,h⟩:=h
  subst e
  cases r
  exact assignInOrder_nil ⟨σ,H,I,h⟩
theorem zah {e:Expr} {es:List Expr} {t:TG} {u:TGs} (h1:PG X e t) (h2:PGs X es u)
    (hs:(assignEach (e::es) X.env).map (·.2)=assign e X.env::(assignEach es X.env).map (·.2):=by rfl):PGs X (e::es) (yhx t u):=by
  intro pins s σ H vs us Q I r h
  obtain ⟨v,vr,e1,h⟩:=h
  subst e1
  cases r with
  | cons r rr =>
    rw [hs]
    refine assignInOrder_cons (thn (h1 pins s σ H _ _ _ I r h) fun _ s1 ⟨σ1,H1,I1,q1⟩=>?_)
    exact h2 pins s1 σ1 H1 _ _ Q I1 rr q1
def gTup (K:PySem.W.Frag) (n:Nat) (t:TGs):TG:=fun v σ H Q=>∃a xs,v = .ref a∧SqT K H a xs∧xs.length=n∧t xs σ H Q
theorem ya8 {es:List Expr} {k:Nat} {t:TGs} {n:Nat} (hc:X.calm=true) (h:PGs X es t)
    (hn:(assignEach es X.env).length=n:=by rfl) (hst:(assignEach es X.env).findIdx? (·.1)=none:=by rfl):PG X (.Tuple es k pos) (gTup X.K n t):=by
  intro pins s σ H v u Q I r hw
  obtain ⟨a,xs,e1,hq,hl,hw⟩:=hw
  subst e1
  cases r
  obtain ⟨its,rv,ht,hz⟩:=I.tuple hq
  refine assign_Tuple_tuple (I.ok.hd hc) ht (by simp [hn,←hl,rv.length]) hst fun h' hx=>?_
  have I1:Inv X pins σ H { s with heap:=h' }:=I.kept (t':=s.toks) fun b o e=>hx b o (Nat.ne_of_lt (Heap.lt_size e)) e
  exact h pins _ σ H xs _ Q I1 (by simpa using rv) hw
def gSub (to ti:TE) (t:TSet):TG:=fun v σ H Q=>to σ H fun o H1=>ti σ H1 fun i H2=>t o i v H2 fun H3=>Q σ H3
theorem zcH {o i:Expr} {to ti:TE} {t:TSet} (ho:PE X o to) (hi:PE X i ti) (hs:PSet X t)
    (ha:∀v,assign (.Subscript o i pos) X.env v=(do
      let ov ←holding [v] (eval o X.env)
      let iv ←holding [v,ov] (eval i X.env)
      standAt pos
      holding [v,ov,iv] (setItem ov iv v)
      release [v,ov,iv] []):=by intro _;rfl):PG X (.Subscript o i pos) (gSub to ti t):=by
  intro pins s σ H v u Q I r h
  rw [ha]
  refine wpAny_bind (wpAny_holding (thn (ho pins s σ H _ I h) fun ov s1 ⟨x,H1,I1,r1,q1⟩=>?_))
  refine wpAny_bind (wpAny_holding (thn (hi pins s1 σ H1 _ I1 q1) fun iv s2 ⟨y,H2,I2,r2,q2⟩=>?_))
  refine wpAny_bind (wpAny_standAt (wpAny_bind (wpAny_holding (thn (hs pins s2 σ H2 x y v ov iv u _ I2 r1 r2 r q2) fun _ s3 ⟨H3,I3,q3⟩=>?_))))
  exact wpAny_release ⟨σ,H3,I3,q3⟩
def tAsg (te:TE) (g:TG):TS:=fun D σ H=>te σ H fun x H1=>g x σ H1 D.nx
theorem za6 {tg e:Expr} {te:TE} {g:TG} (he:PE X e te) (hg:PG X tg g) (hs:swapsWithSole [tg] e pos.line X.env=pure false:=by rfl) (hw:swappedStores [tg] e X.env=pure none:=by rfl)
    (h1:(assignEach [tg] X.env).map (·.2)=[assign tg X.env]:=by rfl):PS X (.Assign [tg] e pos) (tAsg te g):=by
  intro pins s σ H D I h
  refine wpAny_Assign_stores (thn (he pins s σ H _ I h) fun v s1 ⟨x,H1,I1,r1,q1⟩=>?_) hs hw
  rw [h1]
  exact thn (hg pins s1 σ H1 x v _ I1 r1 q1) fun _ s2 q=>q
theorem zag {i:Nat} {x:Str} {e:Expr} {te:TE} {pos':Pos} (hN:X.N.Nodup) (hi:X.N[i]?=some x) (hx:Loc X.env.scope x) (he:PE X e te) (hs:swapsWith e (some (.Name x pos')) pos.line X.env=pure false:=by rfl) (hf:X.fn x=true∨X.env.scope.names.lookup x=some .local:=by first|exact .inl rfl|exact .inr rfl|assumption) :
    PS X (.Assign [.Name x pos'] e pos) (tAsg te (zau i)):=by
  intro pins s σ H D I h
  refine wpAny_Assign_Name (thn (he pins s σ H _ I h) fun v s1 ⟨y,H1,I1,r1,q1⟩=>?_) hs
  exact zbj I1 hN hi hx r1 (fun s2 I2=>⟨_,H1,I2,q1⟩) hf
def tPar (i j:Nat) (ta:TA):TS:=fun D σ H=>ta σ H fun vs H1=>∃v w,vs=[v,w]∧D.nx ((σ.set i (some v)).set j (some w)) H1
theorem ybB {i j:Nat} {x y:Str} {a b:Expr} {ta:TA} {px py pt:Pos} {kt k2 pt2} (hc:X.calm=true) (hN:X.N.Nodup) (hi:X.N[i]?=some x) (hj:X.N[j]?=some y) (hij:i≠j)
    (hx:X.env.scope.names.lookup x=some .local) (hy:X.env.scope.names.lookup y=some .local) (ha:PA X [a,b] ta)
    (hw:swappedStores [.Tuple [.Name x px,.Name y py] kt pt] (.Tuple [a,b] k2 pt2) X.env=pure (some [x,y]))
    (hs:swapsWithSole [.Tuple [.Name x px,.Name y py] kt pt] (.Tuple [a,b] k2 pt2) pos.line X.env=pure false:=by rfl) :
    PS X (.Assign [.Tuple [.Name x px,.Name y py] kt pt] (.Tuple [a,b] k2 pt2) pos) (tPar i j ta):=by
  intro pins s σ H D I h
  rw [exec_Assign_arm]
  refine wpAny_bind (wpAny_standAt ?_)
  rw [hs]
  refine wpAny_bind (wpAny_pure ?_)
  rw [if_neg (by decide)]
  refine wpAny_bind (Tuple_ (thn (ha _ pins s σ H _ I h) fun us s1 ⟨vs,H1,I1,r1,q1⟩=>?_))
  obtain ⟨v,w,e1,q1⟩:=q1
  subst e1
  obtain ⟨u1,u2,rfl,rv,rw'⟩:∃u1 u2,us=[u1,u2]∧RelV v u1∧RelV w u2:=by
    cases r1 with
    | cons p q =>
      cases q with
      | cons p' q' =>
        cases q'
        exact ⟨_,_,rfl,p,p'⟩
  refine wpAny_newObj_type ?_ (by show 2≤sizeLine;decide)
  have I2:Inv X pins σ H1 { s1 with heap:=s1.heap.push { cls:=.type "tuple",data:=.seq [u1,u2].toArray } }:=I1.kept (t':=s1.toks) fun b o e=>Heap.get?_push_of_some _ e
  rw [hw]
  refine wpAny_bind (wpAny_pure ?_)
  show wpAny (model X.prog X.w) X.A (do rule "assign.swapped-stores";let items ←unpackItems (.ref s1.heap.objs.size) 2 none;assignInOrder [fun v=>bindName X.env y v,fun v=>bindName X.env x v] items.reverse;pure Flow.next) _ _ _
  refine wpAny_bind (wpAny_rule (wpAny_bind (unpackItems_tuple (items:=#[u1,u2]) (I.ok.hd hc) (IsTup.new s1.heap _) fun h' hx'=>?_)))
  have I3:=I2.kept (h':=h') (t':=s1.toks) fun b o e=>hx' b o (Nat.ne_of_lt (Heap.lt_size e)) e
  show wpAny _ _ (assignInOrder [fun v=>bindName X.env y v,fun v=>bindName X.env x v] [u2,u1] >>= fun _=>pure Flow.next) _ _ _
  refine wpAny_bind (assignInOrder_cons (wpAny_bindName (zbj I3 hN hj (.inl hy) rw' (fun s2 I4=>?_) (.inr hy))))
  refine assignInOrder_cons (wpAny_bindName (zbj I4 hN hi (.inl hx) rv (fun s3 I5=>assignInOrder_nil (wpAny_pure ?_)) (.inr hx)))
  rw [List.set_comm _ _ (Ne.symm hij)] at I5
  exact ⟨_,H1,I5,q1⟩
def tAug (i:Nat) (te:TE) (ti:TIp):TS:=fun D σ H=>∃x,σ[i]?=some (some x)∧te σ H fun y H1=>ti x y H1 fun z H2=>D.nx (σ.set i (some z)) H2
theorem zbS {i:Nat} {x:Str} {e:Expr} {te:TE} {op:Operator} {ti:TIp} {pos':Pos} (hN:X.N.Nodup) (hi:X.N[i]?=some x) (hx:Loc X.env.scope x) (he:PE X e te) (ho:PIp X op ti) (hf:X.fn x=true∨X.env.scope.names.lookup x=some .local:=by first|exact .inl rfl|exact .inr rfl|assumption) :
    PS X (.AugAssign (.Name x pos') op e pos) (tAug i te ti):=by
  intro pins s σ H D I h
  obtain ⟨v,e1,h⟩:=h
  obtain ⟨m,hn,hl⟩:=I.loc
  have vis:Vis X.env.scope x:=by rcases hx with k|k;exact .inl k;exact .inr (.inl k)
  obtain ⟨u,r,l⟩:=hl i x v hi e1 vis
  refine wpAny_AugAssign_Name ?_
  have go:wpAny (model X.prog X.w) X.A (eval e X.env) (fun w s₂=>wpAny (model X.prog X.w) X.A (inplaceOp op u w) (fun r s₃=>wpAny (model X.prog X.w) X.A (storeName X.env x r) (fun _=>SP X pins D .next) X.xe s₃) X.xe s₂) X.xe s:=by
    refine thn (he pins s σ H _ I h) fun w s1 ⟨y,H1,I1,r1,q1⟩=>?_
    refine thn (ho pins s1 σ H1 v y u w _ I1 r r1 q1) fun z s2 ⟨zv,H2,I2,r2,q2⟩=>?_
    exact zbj I2 hN hi hx r2 (fun s3 I3=>⟨_,H2,I3,q2⟩) hf
  rcases l with ⟨hk,hm⟩ | ⟨hk,c,hc,hcell⟩
  · exact wpAny_loadName_local I.ok.kind hk hn hm go
  · rcases hk with hk|hk
    · exact wpAny_loadName_cell I.ok.kind hk hc hcell go
    · rcases hx with k|k
      · have:X.env.scope.names.lookup x=some .free:=hk
        rw [k] at this;cases this
      · have:X.env.scope.names.lookup x=some .free:=hk
        rw [k] at this;cases this
end
section
variable {X:Cx} {pos:Pos}
def yfu (c:TT) (tb:TS):TS:=fun D σ H=>∃W:Nat→St→Hp→Prop,(∃m,W m σ H)∧∀m σ H,W m σ H→
  c σ H fun b H1=>if b=true then ∃N:St→Hp→Prop,(∀σ' H',N σ' H'→∃m',m'<m∧W m' σ' H')∧tb { D with nx:=N,ct:=N,bk:=D.nx } σ H1 else D.nx σ H1
theorem zaT {c:Expr} {body:List Stmt} {tc:TT} {tb:TS} (hp:PassesOwn (model X.prog X.w) X.A X.env X.xe) (hc:PT X c tc) (hb:PSs X body tb):PS X (.While c body [] pos) (yfu tc tb):=by
  intro pins s σ H D I h
  obtain ⟨W,⟨m0,w0⟩,turn⟩:=h
  refine wpAny_While (codeAny_whileLoop (fun n s'=>∃σ' H',Inv X pins σ' H' s'∧W n σ' H') ?_ m0 ⟨σ,H,I,w0⟩)
  rintro n s1 ⟨σ1,H1,I1,w1⟩
  refine wpAny_passesOwn hp (thn (hc pins s1 σ1 H1 _ I1 (turn n σ1 H1 w1)) fun b s2 ⟨H2,I2,q2⟩=>?_)
  cases b with
  | true =>
    obtain ⟨N,hN,q2⟩:=q2
    rw [if_pos rfl]
    refine wpAny_passesOwn hp (thn (hb pins s2 σ1 H2 _ I2 q2) fun f s3 q3=>?_)
    cases f with
    | next =>
      obtain ⟨σ3,H3,I3,n3⟩:=q3
      obtain ⟨m',hm,w3⟩:=hN σ3 H3 n3
      exact ⟨m',hm,σ3,H3,I3,w3⟩
    | cont =>
      obtain ⟨σ3,H3,I3,n3⟩:=q3
      obtain ⟨m',hm,w3⟩:=hN σ3 H3 n3
      exact ⟨m',hm,σ3,H3,I3,w3⟩
    | brk=>exact q3
    | ret v=>exact q3
  | false =>
    rw [if_neg Bool.false_ne_true]
    exact wpAny_execs_nil ⟨σ1,H2,I2,q2⟩
end
structure It where
  go:Nat→Hp→Prop
  yld:Nat→Hp→V→Hp→Prop
  stop:Nat→Hp→Prop
def FpOk (X:Cx) (pins:List (Addr×Obj)) (H:Hp) (b:Addr):Prop :=
  H b=none∧b≠X.env.locals∧b∉X.fs∧(b∈X.ex∨X.s₀.heap.objs.size≤b)∧(∀x c,X.env.cells.lookup x=some c→c≠b)∧∀p∈X.pn++pins,p.1≠b
theorem Inv.fpOk {X:Cx} {pins:List (Addr×Obj)} {σ:St} {H H':Hp} {s:Shared} {b:Addr} (I:Inv X pins σ H s) (hb:s.heap.objs.size≤b) (hn:H' b=none):FpOk X pins H' b:=by
  refine ⟨hn,Nat.ne_of_gt (Nat.lt_of_lt_of_le I.lt hb),I.nofs hb,.inr (Nat.le_trans I.sz hb),fun x c e z=>?_,fun p hp z=>?_⟩
  · obtain ⟨v,q⟩:=I.cell x c e
    exact absurd (Nat.lt_of_lt_of_le q.lt (by rw [z];exact hb)) (Nat.lt_irrefl _)
  · exact absurd (Nat.lt_of_lt_of_le (Heap.lt_size (I.pin p hp).1) (by rw [z];exact hb)) (Nat.lt_irrefl _)
structure Turn (P:Program) (w:World) (K:PySem.W.Frag) (tg:Expr) (J:It) (fp:List Addr) (it:Addr) (tn:Nat→Heap→Prop):Prop where
  mem:it∈fp
  obj:∀i h,tn i h→∀b∈fp,∃o,h.get? b=some o∧∀v,o.data≠.cell v
  keep:∀i h h',tn i h→(∀b∈fp,∀o,h.get? b=some o→h'.get? b=some o)→tn i h'
  item:∀(X:Cx),X.prog=P→X.w=w→X.K=K→X.calm=true→∀(i:Nat) (pins:List (Addr×Obj)) (s:Shared) (σ:St) (H:Hp) (E:Value→Shared→Prop),Inv X pins σ H s→(∀b∈fp,FpOk X pins H b)→tn i s.heap→J.go i H→
    wpAny (model P w) X.A (pyNext (.ref it)) (fun r s1=>∃u,r=some u∧
      wpAny (model P w) X.A (letOwnedTupleGo tg (.ref it) u) (fun _ s2=>∃x H',Inv X pins σ H' s2∧RelV x u∧J.yld i H x H'∧tn (i+1) s2.heap∧∀b∈fp,H' b=none) E s1) E s
  done:∀(X:Cx),X.prog=P→X.w=w→X.K=K→X.calm=true→∀(i:Nat) (pins:List (Addr×Obj)) (s:Shared) (σ:St) (H:Hp) (E:Value→Shared→Prop),Inv X pins σ H s→(∀b∈fp,FpOk X pins H b)→tn i s.heap→J.stop i H→
    wpAny (model P w) X.A (pyNext (.ref it)) (fun r s1=>r=none∧Inv X pins σ H s1) E s
  self:∀(A:Around) (i:Nat) (s:Shared) (Q:Value→Shared→Prop) (E:Value→Shared→Prop),tn i s.heap→Q (.ref it) s→wpAny (model P w) A (pyIter (.ref it)) Q E s
abbrev TI:=St→Hp→(It→Hp→Prop)→Prop
def PIE (X:Cx) (pins:List (Addr×Obj)) (σ:St) (tg:Expr) (R:It→Hp→Prop) (itv:Value) (s2:Shared):Prop :=
  ∃(it:Addr) (fp:List Addr) (tn:Nat→Heap→Prop) (J:It) (H':Hp),itv = .ref it∧Inv X pins σ H' s2∧Turn X.prog X.w X.K tg J fp it tn∧tn 0 s2.heap∧(∀b∈fp,FpOk X pins H' b)∧R J H'
def PI (X:Cx) (tg iter:Expr) (wi:TI):Prop :=
  ∀(pins:List (Addr×Obj)) (s:Shared) (σ:St) (H:Hp) (R:It→Hp→Prop),Inv X pins σ H s→wi σ H R→
    wpAny (model X.prog X.w) X.A (eval iter X.env) (fun v s1=>wpAny (model X.prog X.w) X.A (pyIter v) (PIE X pins σ tg R) X.xe s1) X.xe s
theorem zfN {M:Model} {A:Around} {E:Value→Shared→Prop} {s:Shared} {tg:Expr} {it:Addr} {u:Value} {o:Obj} {n:String} {vs:Array Value} {Q:Unit→Shared→Prop} (ho:s.heap.get? it=some o) (hc:o.cls = .type n) (hd:o.data = .fields vs)
    (hn:["enumerate","zip","dict_itemiterator","dict_reverseitemiterator","odict_iterator","itertools.zip_longest","itertools.pairwise"].contains n=false) (hQ:Q () s):wpAny M A (letOwnedTupleGo tg (.ref it) u) Q E s:=by
  unfold letOwnedTupleGo
  cases tg <;> first
    | exact wpAny_pure hQ
    | (cases u <;> first
        | exact wpAny_pure hQ
        | (refine wpAny_bind (wpAny_load ho ?_)
           rw [hc,hd]
           show wpAny M A (if (["enumerate","zip","dict_itemiterator","dict_reverseitemiterator","odict_iterator","itertools.zip_longest","itertools.pairwise"].contains n&&vs[0]?==some (rawInt _))=true then _ else _) Q E s
           rw [if_neg (by intro h;rw [hn,Bool.false_and] at h;cases h)]
           exact wpAny_pure hQ))
def Itl (K:PySem.W.Frag) (a:Addr):It :=
  ⟨fun i H=>∃xs x,SqL K H a xs∧xs[i]?=some x,fun i H x H'=>H'=H∧∀xs,SqL K H a xs→xs[i]?=some x,fun i H=>∃xs,SqL K H a xs∧xs.length≤i⟩
def Itt (K:PySem.W.Frag) (a:Addr):It :=
  ⟨fun i H=>∃xs x,SqT K H a xs∧xs[i]?=some x,fun i H x H'=>H'=H∧∀xs,SqT K H a xs→xs[i]?=some x,fun i H=>∃xs,SqT K H a xs∧xs.length≤i⟩
def Itr (lo:Int) (n:Nat):It:=⟨fun i _=>i<n,fun i H x H'=>H'=H∧x = .int (lo+i),fun i _=>n≤i⟩
theorem yfc {P:Program} {w:World} {K:PySem.W.Frag} {tg:Expr} (a it:Addr):Turn P w K tg (Itl K a) [it] it (fun i h=>h.IsListIter it a i) where
  mem:=by simp
  obj:=fun i h st b hb=>by
    have e:b=it:=by simpa using hb
    subst e
    obtain ⟨o,e,c,d⟩:=st
    exact ⟨o,e,fun v z=>by rw [d] at z;cases z⟩
  keep:=fun i h h' st k=>st.at fun o e=>k it (by simp) o e
  item:=by
    intro X hP hw hK hc i pins s σ H E I hf st hg
    subst hP hw hK
    obtain ⟨xs,x,hq,hx⟩:=hg
    obtain ⟨its,rv,p,hz⟩:=I.list hq
    obtain ⟨u,hu,ru⟩:=rv.get hx
    obtain ⟨f0,f1,f2,f3,f4,f5⟩:=hf it (by simp)
    refine wpAny_pyNext_list_item st p.isList (x:=u) (by simpa using hu) fun h' st' sb=>?_
    have I1:Inv X pins σ H { s with heap:=h' }:=I.turned (t':=s.toks) (fun b o hb e=>(sb.2 b hb).trans e) f0 f1 f3 f4 f5
    obtain ⟨o,e,c,d⟩:=id st'
    exact ⟨u,rfl,zfN (s:={ s with heap:=h' }) e c d (by decide) ⟨x,H,I1,ru,⟨rfl,fun ys hy=>by rw [I.list_inj hy hq];exact hx⟩,st',fun b hb=>(hf b hb).1⟩⟩
  done:=by
    intro X hP hw hK hc i pins s σ H E I hf st hg
    subst hP hw hK
    obtain ⟨xs,hq,hx⟩:=hg
    obtain ⟨its,rv,p,hz⟩:=I.list hq
    obtain ⟨f0,f1,f2,f3,f4,f5⟩:=hf it (by simp)
    have hl:=rv.length
    exact wpAny_pyNext_list_end (I.ok.hd hc) st p.isList (by simp;omega) fun h' eb=>⟨rfl,I.turned (t':=s.toks) (fun b o hb e=>eb b o hb e) f0 f1 f3 f4 f5⟩
  self:=fun _ _ _ _ _ st h=>wpAny_pyIter_listiter st h
theorem yeE {P:Program} {w:World} {K:PySem.W.Frag} {tg:Expr} (a it:Addr):Turn P w K tg (Itt K a) [it] it (fun i h=>h.IsTupleIter it a i) where
  mem:=by simp
  obj:=fun i h st b hb=>by
    have e:b=it:=by simpa using hb
    subst e
    obtain ⟨o,e,c,d⟩:=st
    exact ⟨o,e,fun v z=>by rw [d] at z;cases z⟩
  keep:=fun i h h' st k=>st.at fun o e=>k it (by simp) o e
  item:=by
    intro X hP hw hK hc i pins s σ H E I hf st hg
    subst hP hw hK
    obtain ⟨xs,x,hq,hx⟩:=hg
    obtain ⟨its,rv,p,hz⟩:=I.tuple hq
    obtain ⟨u,hu,ru⟩:=rv.get hx
    obtain ⟨f0,f1,f2,f3,f4,f5⟩:=hf it (by simp)
    refine wpAny_pyNext_tuple_item st (show s.heap.IsTuple a its.toArray from p) (x:=u) (by simpa using hu) fun h' st' sb=>?_
    have I1:Inv X pins σ H { s with heap:=h' }:=I.turned (t':=s.toks) (fun b o hb e=>(sb.2 b hb).trans e) f0 f1 f3 f4 f5
    obtain ⟨o,e,c,d⟩:=id st'
    exact ⟨u,rfl,zfN (s:={ s with heap:=h' }) e c d (by decide) ⟨x,H,I1,ru,⟨rfl,fun ys hy=>by rw [I.tuple_inj hy hq];exact hx⟩,st',fun b hb=>(hf b hb).1⟩⟩
  done:=by
    intro X hP hw hK hc i pins s σ H E I hf st hg
    subst hP hw hK
    obtain ⟨xs,hq,hx⟩:=hg
    obtain ⟨its,rv,p,hz⟩:=I.tuple hq
    obtain ⟨f0,f1,f2,f3,f4,f5⟩:=hf it (by simp)
    have hl:=rv.length
    exact wpAny_pyNext_tuple_end (I.ok.hd hc) st (show s.heap.IsTuple a its.toArray from p) (by simp;omega) fun h' eb=>⟨rfl,I.turned (t':=s.toks) (fun b o hb e=>eb b o hb e) f0 f1 f3 f4 f5⟩
  self:=fun _ _ _ _ _ st h=>wpAny_pyIter_tupleiter st h
theorem yeF {P:Program} {w:World} {K:PySem.W.Frag} {tg:Expr} (it:Addr) (lo:Int) (n:Nat):Turn P w K tg (Itr lo n) [it] it (fun i h=>IsRangeIter h it (lo+(i:Nat)*1) ((n:Int)-(i:Nat)) 1) where
  mem:=by simp
  obj:=fun i h st b hb=>by
    have e:b=it:=by simpa using hb
    subst e
    exact ⟨_,st,fun v z=>by
      have z':Data.fields _=Data.cell v:=z
      cases z'⟩
  keep:=fun i h h' st k=>k it (by simp) _ st
  item:=by
    intro X hP hw hK hc i pins s σ H E I hf st hg
    subst hP hw hK
    obtain ⟨f0,f1,f2,f3,f4,f5⟩:=hf it (by simp)
    have W:=Walks.range (prog:=X.prog) (w:=X.w) (I.ok.hd hc) it lo 1 n
    refine W.item i s _ _ hg st fun v h' tk hv st' kk=>?_
    obtain ⟨t,rfl⟩:=hv
    have I1:Inv X pins σ H { s with heap:=h',toks:=tk }:=I.turned (fun b o hb e=>kk b o (by simpa using hb) e) f0 f1 f3 f4 f5
    refine ⟨_,rfl,zfN (s:={ s with heap:=h',toks:=tk }) (n:="range_iterator") st' rfl rfl (by decide) ⟨.int (lo+i),H,I1,⟨t,?_⟩,⟨rfl,rfl⟩,st',fun b hb=>(hf b hb).1⟩⟩
    rw [Int.mul_one]
  done:=by
    intro X hP hw hK hc i pins s σ H E I hf st hg
    subst hP hw hK
    obtain ⟨f0,f1,f2,f3,f4,f5⟩:=hf it (by simp)
    exact wpAny_pyNext_range_end (I.ok.hd hc) st (by have:n≤i:=hg;omega) fun h' eb=>⟨rfl,I.turned (t':=s.toks) (fun b o hb e=>eb b o hb e) f0 f1 f3 f4 f5⟩
  self:=fun _ _ _ _ _ st h=>wpAny_pyIter_rangeiter st h
end L2
namespace L2
open PySem PySem.Spec PyProof.Rows
section
variable {X:Cx} {tg:Expr}
def zhv (K:PySem.W.Frag) (tl:TE):TI:=fun σ H R=>tl σ H fun x H1=>∃a,x = .ref a∧(∃xs,SqL K H1 a xs)∧R (Itl K a) H1
def iTup (K:PySem.W.Frag) (tl:TE):TI:=fun σ H R=>tl σ H fun x H1=>∃a,x = .ref a∧(∃xs,SqT K H1 a xs)∧R (Itt K a) H1
theorem ya7 {l:Expr} {tl:TE} (hl:PE X l tl):PI X tg l (zhv X.K tl):=by
  intro pins s σ H R I h
  refine thn (hl pins s σ H _ I h) fun v s1 ⟨x,H1,I1,r1,q1⟩=>?_
  obtain ⟨a,e,⟨xs,hq⟩,q⟩:=q1
  subst e
  cases r1
  obtain ⟨its,rv,p,hz⟩:=I1.list hq
  refine wpAny_pyIter_list p.isList ?_
  refine ⟨s1.heap.objs.size,[s1.heap.objs.size],_,_,H1,rfl,I1.kept (t':=s1.toks) fun b o e=>Heap.get?_push_of_some _ e,yfc a _,⟨_,Heap.get?_push_size _ rfl,rfl,rfl⟩,fun b hb=>?_,q⟩
  have e:b=s1.heap.objs.size:=by simpa using hb
  subst e
  exact I1.fpOk (Nat.le_refl _) (I1.hok.fresh (Nat.le_refl _))
theorem zcA {l:Expr} {tl:TE} (hl:PE X l tl):PI X tg l (iTup X.K tl):=by
  intro pins s σ H R I h
  refine thn (hl pins s σ H _ I h) fun v s1 ⟨x,H1,I1,r1,q1⟩=>?_
  obtain ⟨a,e,⟨xs,hq⟩,q⟩:=q1
  subst e
  cases r1
  obtain ⟨its,rv,p,hz⟩:=I1.tuple hq
  refine wpAny_pyIter_tuple (show s1.heap.IsTuple a its.toArray from p) ?_
  refine ⟨s1.heap.objs.size,[s1.heap.objs.size],_,_,H1,rfl,I1.kept (t':=s1.toks) fun b o e=>Heap.get?_push_of_some _ e,yeE a _,⟨_,Heap.get?_push_size _ rfl,rfl,rfl⟩,fun b hb=>?_,q⟩
  have e:b=s1.heap.objs.size:=by simpa using hb
  subst e
  exact I1.fpOk (Nat.le_refl _) (I1.hok.fresh (Nat.le_refl _))
theorem zep {pins:List (Addr×Obj)} {σ:St} {H:Hp} {s:Shared} {R:It→Hp→Prop} {E:Value→Shared→Prop} {lo hi:Int} {t u v:Tok} {tk:Nat} (I:Inv X pins σ H s) (h1 : -(2^62)≤lo) (h2:lo<2^62) (h3 : -(2^62)≤hi) (h4:hi<2^62)
    (q:R (Itr lo (hi-lo).toNat) H):wpAny (model X.prog X.w) X.A (pyIter (.ref s.heap.objs.size)) (PIE X pins σ tg R) E { s with heap:=s.heap.push { cls:=.type "range",data:=.fields #[.int lo t,.int hi u,.int 1 v] },toks:=tk }:=by
  refine wpAny_pyIter_range (IsRange.new ..) (small_one h1 h2 h3 h4) ?_
  have I1:Inv X pins σ H { s with heap:=s.heap.push { cls:=.type "range",data:=.fields #[.int lo t,.int hi u,.int 1 v] },toks:=tk }:=I.kept fun b o e=>Heap.get?_push_of_some _ e
  refine ⟨(s.heap.push { cls:=.type "range",data:=.fields #[.int lo t,.int hi u,.int 1 v] }).objs.size,[(s.heap.push { cls:=.type "range",data:=.fields #[.int lo t,.int hi u,.int 1 v] }).objs.size],_,_,H,rfl,
    I1.kept (t':=tk) fun b o e=>Heap.get?_push_of_some _ e,yeF _ lo (hi-lo).toNat,?_,fun b hb=>?_,q⟩
  · have e1:lo+((0:Nat):Int)*1=lo:=by simp
    have e2:(((hi-lo).toNat:Nat):Int)-((0:Nat):Int)=Builtin.Range.rangeSize lo hi 1:=by rw [rangeSize_one];split <;> omega
    show IsRangeIter _ _ (lo+((0:Nat):Int)*1) ((((hi-lo).toNat:Nat):Int)-((0:Nat):Int)) 1
    rw [e1,e2]
    exact Heap.get?_push_size _ rfl
  · have e:b=(s.heap.push { cls:=.type "range",data:=.fields #[.int lo t,.int hi u,.int 1 v] }).objs.size:=by simpa using hb
    subst e
    exact I1.fpOk (Nat.le_refl _) (I1.hok.fresh (Nat.le_refl _))
def yhm (ta:TA):TI:=fun σ H R=>ta σ H fun vs H1=>∃j:Int,vs=[.int j]∧-(2^62)≤j∧j<2^62∧R (Itr 0 j.toNat) H1
def yhy (ta:TA):TI:=fun σ H R=>ta σ H fun vs H1=>∃i j:Int,vs=[.int i,.int j]∧(-(2^62)≤i∧i<2^62∧-(2^62)≤j∧j<2^62)∧R (Itr i (j-i).toNat) H1
theorem yau {a:Expr} {ta:TA} {p pos:Pos} (hg:Gl X "range") (hm:X.mg "range"=none) (ha:PA X [a] ta) (hs:starEach [a] X.env=[(false,eval a X.env)]:=by rfl):PI X tg (.Call (.Name "range" p) [a] [] pos) (yhm ta):=by
  intro pins s σ H R I h
  refine Call_ (ybO I hg hm boot_range (PyProof.Rows.callWith_type1 (thn (ha pos pins s σ H _ I h) fun us s1 ⟨vs,H1,I1,r1,q1⟩=>?_) hs rfl))
  obtain ⟨j,e,q1,q2,q⟩:=q1
  subst e
  cases r1 with
  | cons r rr =>
    cases rr
    obtain ⟨t,rfl⟩:=r
    exact call_range_1 (zep I1 (by omega) (by omega) q1 q2 (by simpa using q))
theorem ybP {a b:Expr} {ta:TA} {p pos:Pos} (hg:Gl X "range") (hm:X.mg "range"=none) (ha:PA X [a,b] ta) (hs:starEach [a,b] X.env=[(false,eval a X.env),(false,eval b X.env)]:=by rfl) (hs2:starEach [b] X.env=[(false,eval b X.env)]:=by rfl) :
    PI X tg (.Call (.Name "range" p) [a,b] [] pos) (yhy ta):=by
  intro pins s σ H R I h
  refine Call_ (ybO I hg hm boot_range (PyProof.Rows.callWith_type1 (thn (ha pos pins s σ H _ I h) fun us s1 ⟨vs,H1,I1,r1,q1⟩=>?_) (by rw [hs,hs2]) (by rw [hs2];rfl)))
  obtain ⟨i,j,e,⟨q1,q2,q3,q4⟩,q⟩:=q1
  subst e
  cases r1 with
  | cons r rr =>
    cases rr with
    | cons r' rr =>
      cases rr
      obtain ⟨t,rfl⟩:=r
      obtain ⟨t',rfl⟩:=r'
      exact call_range_2 (zep I1 q1 q2 q3 q4 q)
def tFor (wi:TI) (g:TG) (tb:TS):TS:=fun D σ H=>wi σ H fun J H1=>∃W:Nat→Nat→St→Hp→Prop,(∃m,W 0 m σ H1)∧∀i m σ H,W i m σ H→
  (J.stop i H∧D.nx σ H)∨(J.go i H∧∃N:St→Hp→Prop,(∀σ' H',N σ' H'→∃m',m'<m∧W (i+1) m' σ' H')∧∀x H',J.yld i H x H'→g x σ H' fun σ2 H2=>tb { D with nx:=N,ct:=N,bk:=D.nx } σ2 H2)
def zdB (fp:List Addr) (h:Heap):List (Addr×Obj):=fp.filterMap fun b=>(h.get? b).map fun o=>(b,o)
theorem zb4 {fp:List Addr} {h:Heap} {b:Addr} {o:Obj} (hb:b∈fp) (e:h.get? b=some o):(b,o)∈zdB fp h:=List.mem_filterMap.mpr ⟨b,hb,by rw [e];rfl⟩
theorem yfj {fp:List Addr} {h:Heap} {p:Addr×Obj} (hp:p∈zdB fp h):p.1∈fp∧h.get? p.1=some p.2:=by
  obtain ⟨b,hb,e⟩:=List.mem_filterMap.mp hp
  cases q:h.get? b with
  | none=>rw [q] at e;cases e
  | some o =>
    rw [q] at e
    have e':(b,o)=p:=Option.some.inj e
    subst e'
    exact ⟨hb,q⟩
theorem Inv.pinned {pins:List (Addr×Obj)} {σ:St} {H:Hp} {s:Shared} {fp:List Addr} (I:Inv X pins σ H s) (hf:∀b∈fp,FpOk X pins H b) (ho:∀b∈fp,∃o,s.heap.get? b=some o∧∀v,o.data≠.cell v):Inv X (pins++zdB fp s.heap) σ H s :=
  I.pins_of fun p hp=>(List.mem_append.mp hp).elim (fun z=>I.pin p (List.mem_append_right _ z)) fun z=>by
    obtain ⟨hb,e⟩:=yfj z
    obtain ⟨f0,f1,f2,_⟩:=hf p.1 hb
    obtain ⟨o,e',d⟩:=ho p.1 hb
    rw [e] at e';cases e'
    exact ⟨e,f0,f1,f2,d⟩
theorem Inv.unpinned {pins pl:List (Addr×Obj)} {σ:St} {H:Hp} {s:Shared} (I:Inv X (pins++pl) σ H s):Inv X pins σ H s:=I.pins_of fun p hp=>I.pin p (List.mem_append_right _ (List.mem_append_left _ hp))
theorem yaD {iter:Expr} {body:List Stmt} {wi:TI} {g:TG} {tb:TS} {pos:Pos} (hp:PassesOwn (model X.prog X.w) X.A X.env X.xe) (hc:X.calm=true) (hi:PI X tg iter wi) (hg:PG X tg g) (hb:PSs X body tb)
    (hs:∀x,foldedSetIterable iter X.env x=pure x:=by intro _;rfl):PS X (.For tg iter body [] pos) (tFor wi g tb):=by
  intro pins s σ H D I h
  refine wpAny_For (thn (hi pins s σ H _ I h) fun v s1 h1=>thn h1 fun itv s2 h2=>?_) hs
  obtain ⟨it,fp,tn,J,H2,e,I2,T,st2,f2,W,⟨m0,w0⟩,turn⟩:=h2
  subst e
  have stat:∀ {H':Hp},(∀b∈fp,H' b=none)→∀b∈fp,FpOk X pins H' b:=fun hn b hb=>⟨hn b hb,(f2 b hb).2⟩
  refine codeAny_forLoop_any (fun n s'=>∃i σ' H',Inv X pins σ' H' s'∧tn i s'.heap∧(∀b∈fp,H' b=none)∧W i n σ' H') ?_ m0 ⟨0,σ,H2,I2,st2,fun b hb=>(f2 b hb).1,w0⟩
  rintro n s3 ⟨i,σ3,H3,I3,st3,fr3,w3⟩
  rcases turn i n σ3 H3 w3 with ⟨stop,qn⟩ | ⟨go,N,hN,step⟩
  · refine wpAny_passesOwn hp (thn (T.done X rfl rfl rfl hc i pins s3 σ3 H3 X.xe I3 (stat fr3) st3 stop) fun r s4 ⟨hr,I4⟩=>?_)
    subst hr
    exact wpAny_execs_nil ⟨σ3,H3,I4,qn⟩
  · refine wpAny_passesOwn hp (thn (T.item X rfl rfl rfl hc i pins s3 σ3 H3 X.xe I3 (stat fr3) st3 go) fun r s4 ⟨u,hr,h4⟩=>?_)
    subst hr
    refine wpAny_passesOwn hp (thn h4 fun _ s5 ⟨x,H5,I5,r5,y5,st5,fr5⟩=>?_)
    have I5':=I5.pinned (stat fr5) (T.obj _ _ st5)
    refine wpAny_passesOwn hp (thn (hg _ s5 σ3 H5 x u _ I5' r5 (step x H5 y5)) fun _ s6 ⟨σ6,H6,I6,q6⟩=>?_)
    refine wpAny_passesOwn hp (thn (hb _ s6 σ6 H6 _ I6 q6) fun f s7 q7=>?_)
    have again:∀ {σ7:St} {H7:Hp},Inv X (pins++zdB fp s5.heap) σ7 H7 s7→N σ7 H7→∃m,m<n∧∃i σ' H',Inv X pins σ' H' s7∧tn i s7.heap∧(∀b∈fp,H' b=none)∧W i m σ' H':=fun {σ7 H7} I7 n7=>by
      obtain ⟨m',hm,w7⟩:=hN σ7 H7 n7
      refine ⟨m',hm,i+1,σ7,H7,I7.unpinned,T.keep _ _ _ st5 fun b hb o e=>(I7.pin (b,o) (List.mem_append_right _ (List.mem_append_right _ (zb4 hb e)))).1,fun b hb=>?_,w7⟩
      obtain ⟨o,e,d⟩:=T.obj _ _ st5 b hb
      exact (I7.pin (b,o) (List.mem_append_right _ (List.mem_append_right _ (zb4 hb e)))).2.1
    cases f with
    | next=>obtain ⟨σ7,H7,I7,n7⟩:=q7;exact again I7 n7
    | cont=>obtain ⟨σ7,H7,I7,n7⟩:=q7;exact again I7 n7
    | brk=>obtain ⟨σ7,H7,I7,q7⟩:=q7;exact ⟨σ7,H7,I7.unpinned,q7⟩
    | ret v=>obtain ⟨x7,σ7,H7,I7,r7,q7⟩:=q7;exact ⟨x7,σ7,H7,I7.unpinned,r7,q7⟩
end
theorem zde {K:PySem.W.Frag} {a:Addr} {xs:List V} {g:TG} {tb:TS} {D:Ends} {σ:St} {H:Hp} (Pv:Nat→St→Hp→Prop) (h0:Pv 0 σ H) (hl:∀i σ H,i≤xs.length→Pv i σ H→SqL K H a xs)
    (hs:∀i x σ H,xs[i]?=some x→Pv i σ H→g x σ H fun σ2 H2=>tb { D with nx:=Pv (i+1),ct:=Pv (i+1),bk:=D.nx } σ2 H2) (hd:∀σ H,Pv xs.length σ H→D.nx σ H) :
    ∃W:Nat→Nat→St→Hp→Prop,(∃m,W 0 m σ H)∧∀i m σ H,W i m σ H→
      ((Itl K a).stop i H∧D.nx σ H)∨((Itl K a).go i H∧∃N:St→Hp→Prop,(∀σ' H',N σ' H'→∃m',m'<m∧W (i+1) m' σ' H')∧∀x H',(Itl K a).yld i H x H'→g x σ H' fun σ2 H2=>tb { D with nx:=N,ct:=N,bk:=D.nx } σ2 H2):=by
  refine ⟨fun i m σ H=>m=xs.length-i∧i≤xs.length∧Pv i σ H,⟨xs.length,by simp,Nat.zero_le _,h0⟩,?_⟩
  rintro i m σ H ⟨rfl,hi,p⟩
  have q:=hl i σ H hi p
  by_cases hlt:i<xs.length
  · refine .inr ⟨⟨xs,xs[i],q,by simp [hlt]⟩,Pv (i+1),fun σ' H' p'=>⟨xs.length-(i+1),by omega,rfl,hlt,p'⟩,fun x H' y=>?_⟩
    obtain ⟨e,y⟩:=y
    subst e
    exact hs i x σ _ (y xs q) p
  · have e:i=xs.length:=by omega
    subst e
    exact .inl ⟨⟨xs,q,Nat.le_refl _⟩,hd σ H p⟩
theorem yaI {lo:Int} {n:Nat} {g:TG} {tb:TS} {D:Ends} {σ:St} {H:Hp} (Pv:Nat→St→Hp→Prop) (h0:Pv 0 σ H)
    (hs:∀i σ H,i<n→Pv i σ H→g (.int (lo+i)) σ H fun σ2 H2=>tb { D with nx:=Pv (i+1),ct:=Pv (i+1),bk:=D.nx } σ2 H2) (hd:∀σ H,Pv n σ H→D.nx σ H) :
    ∃W:Nat→Nat→St→Hp→Prop,(∃m,W 0 m σ H)∧∀i m σ H,W i m σ H→
      ((Itr lo n).stop i H∧D.nx σ H)∨((Itr lo n).go i H∧∃N:St→Hp→Prop,(∀σ' H',N σ' H'→∃m',m'<m∧W (i+1) m' σ' H')∧∀x H',(Itr lo n).yld i H x H'→g x σ H' fun σ2 H2=>tb { D with nx:=N,ct:=N,bk:=D.nx } σ2 H2):=by
  refine ⟨fun i m σ H=>m=n-i∧i≤n∧Pv i σ H,⟨n,by simp,Nat.zero_le _,h0⟩,?_⟩
  rintro i m σ H ⟨rfl,hi,p⟩
  by_cases hlt:i<n
  · refine .inr ⟨hlt,Pv (i+1),fun σ' H' p'=>⟨n-(i+1),by omega,rfl,hlt,p'⟩,fun x H' y=>?_⟩
    obtain ⟨e,y⟩:=y
    subst e y
    exact hs i σ _ hlt p
  · have e:i=n:=by omega
    subst e
    exact .inl ⟨Nat.le_refl _,hd σ H p⟩
end L2
namespace L2
open PySem PySem.Spec PyProof.Rows
abbrev R2:=V→V→Hp→VK→Prop
def OpR (X:Cx) (f:Value→Value→Sem Value) (r:R2):Prop :=
  ∀(pins:List (Addr×Obj)) (s:Shared) (σ:St) (H:Hp) (x y:V) (v u:Value) (Q:VK),Inv X pins σ H s→RelV x v→RelV y u→r x y H Q→
    wpAny (model X.prog X.w) X.A (f v u) (EP X pins σ Q) X.xe s
def UnR (X:Cx) (f:Value→Sem Value) (r:V→Hp→VK→Prop):Prop :=
  ∀(pins:List (Addr×Obj)) (s:Shared) (σ:St) (H:Hp) (x:V) (v:Value) (Q:VK),Inv X pins σ H s→RelV x v→r x H Q→
    wpAny (model X.prog X.w) X.A (f v) (EP X pins σ Q) X.xe s
def zbk (X:Cx) (f:Value) (r:List V→Hp→VK→Prop):Prop :=
  ∀(pins:List (Addr×Obj)) (s:Shared) (σ:St) (H:Hp) (xs:List V) (us:List Value) (Q:VK),Inv X pins σ H s→Vals xs us→r xs H Q→
    wpAny (model X.prog X.w) X.A (call f us) (EP X pins σ Q) X.xe s
def tOp (r:R2) (ta tb:TE):TE:=fun σ H Q=>ta σ H fun x H1=>tb σ H1 fun y H2=>r x y H2 Q
def tUn (r:V→Hp→VK→Prop) (ta:TE):TE:=fun σ H Q=>ta σ H fun x H1=>r x H1 Q
def rI (C:Int→Int→Prop) (g:Int→Int→V):R2:=fun x y H Q=>∃i j,x = .int i∧y = .int j∧C i j∧Q (g i j) H
def rI0 (g:Int→Int→V):R2:=fun x y H Q=>∃i j,x = .int i∧y = .int j∧Q (g i j) H
def rU (g:Int→V):V→Hp→VK→Prop:=fun x H Q=>∃i,x = .int i∧Q (g i) H
section
variable {X:Cx} {a b c:Expr} {ta tb tc:TE} {pos:Pos}
theorem binT (ha:PE X a ta) (hb:PE X b tb) {pins:List (Addr×Obj)} {s:Shared} {σ:St} {H:Hp} {R:V→V→Hp→Prop} (I:Inv X pins σ H s)
    (h:ta σ H fun x H1=>tb σ H1 fun y H2=>R x y H2) {Q:Value→Shared→Prop} {f:Value→Value→Sem Value}
    (hf:∀v u s2 x y H2,Inv X pins σ H2 s2→RelV x v→RelV y u→R x y H2→wpAny (model X.prog X.w) X.A (f v u) Q X.xe s2) :
    wpAny (model X.prog X.w) X.A (eval a X.env) (fun v s₁=>wpAny (model X.prog X.w) X.A (eval b X.env) (fun u s₂=>wpAny (model X.prog X.w) X.A (f v u) Q X.xe s₂) X.xe s₁) X.xe s:=by
  refine thn (ha pins s σ H _ I h) fun v s1 ⟨x,H1,I1,r1,q1⟩=>?_
  refine thn (hb pins s1 σ H1 _ I1 q1) fun u s2 ⟨y,H2,I2,r2,q2⟩=>?_
  exact hf v u s2 x y H2 I2 r1 r2 q2
theorem yaf {op:Operator} {r:R2} (ho:OpR X (binaryOp op) r) (ha:PE X a ta) (hb:PE X b tb):PE X (.BinOp a op b pos) (tOp r ta tb):=by
  intro pins s σ H Q I h
  exact wpAny_BinOp (binT ha hb I h fun v u s2 x y H2 I2 rx ry q=>ho pins s2 σ H2 x y v u Q I2 rx ry q)
theorem zeN {op:UnaryOp} {r:V→Hp→VK→Prop} (ho:UnR X (unaryOp op) r) (ha:PE X a ta):PE X (.UnaryOp op a pos) (tUn r ta):=by
  intro pins s σ H Q I h
  exact UnaryOp_ (thn (ha pins s σ H _ I h) fun v s1 ⟨x,H1,I1,r1,q1⟩=>ho pins s1 σ H1 x v Q I1 r1 q1)
theorem opI {f:Value→Value→Sem Value} {C:Int→Int→Prop} {g:Int→Int→Int}
    (rule:∀(i j:Int) (t u:Tok) (s:Shared) (Q:Value→Shared→Prop) (E:Value→Shared→Prop),C i j→Q (.int (g i j) s.toks) { s with toks:=s.toks+1 }→wpAny (model X.prog X.w) X.A (f (.int i t) (.int j u)) Q E s) :
    OpR X f (rI C fun i j=>.int (g i j)):=by
  intro pins s σ H x y v u Q I rx ry h
  obtain ⟨i,j,rfl,rfl,hc,q⟩:=h
  obtain ⟨t,rfl⟩:=rx
  obtain ⟨t',rfl⟩:=ry
  exact rule i j t t' s _ _ hc ⟨.int (g i j),H,I.tok _,⟨_,rfl⟩,q⟩
theorem opI0 {f:Value→Value→Sem Value} {g:Int→Int→Int}
    (rule:∀(i j:Int) (t u:Tok) (s:Shared) (Q:Value→Shared→Prop) (E:Value→Shared→Prop),Q (.int (g i j) s.toks) { s with toks:=s.toks+1 }→wpAny (model X.prog X.w) X.A (f (.int i t) (.int j u)) Q E s) :
    OpR X f (rI0 fun i j=>.int (g i j)):=by
  intro pins s σ H x y v u Q I rx ry h
  obtain ⟨i,j,rfl,rfl,q⟩:=h
  obtain ⟨t,rfl⟩:=rx
  obtain ⟨t',rfl⟩:=ry
  exact rule i j t t' s _ _ ⟨.int (g i j),H,I.tok _,⟨_,rfl⟩,q⟩
theorem opB0 {f:Value→Value→Sem Value} {g:Int→Int→Bool}
    (rule:∀(i j:Int) (t u:Tok) (s:Shared) (Q:Value→Shared→Prop) (E:Value→Shared→Prop),Q (.bool (g i j)) s→wpAny (model X.prog X.w) X.A (f (.int i t) (.int j u)) Q E s) :
    OpR X f (rI0 fun i j=>.bl (g i j)):=by
  intro pins s σ H x y v u Q I rx ry h
  obtain ⟨i,j,rfl,rfl,q⟩:=h
  obtain ⟨t,rfl⟩:=rx
  obtain ⟨t',rfl⟩:=ry
  exact rule i j t t' s _ _ ⟨.bl (g i j),H,I,rfl,q⟩
def CPow (i j:Int):Prop:=0≤j∧j≤1000000∧i.natAbs<2^64
def CMul (i j:Int):Prop:=(-(2^64)<i∧i<2^64)∨(-(2^64)<j∧j<2^64)
theorem CMul.ok {i j:Int} (h:CMul i j):IntMulOk i j:=by
  rcases h with ⟨h1,h2⟩ | ⟨h1,h2⟩
  · exact .of_left (intBits_le_64 h1 h2)
  · exact .of_right (intBits_le_64 h1 h2)
theorem yar:OpR X (binaryOp .Add) (rI0 fun i j=>.int (i+j)):=opI0 fun _ _ _ _ _ _ _ q=>add_int q
theorem ybq:OpR X (binaryOp .Sub) (rI0 fun i j=>.int (i-j)):=opI0 fun _ _ _ _ _ _ _ q=>sub_int q
theorem yaX:OpR X (binaryOp .Mult) (rI CMul fun i j=>.int (i*j)):=opI fun _ _ _ _ _ _ _ hc q=>mul_int q hc.ok
theorem zaz:OpR X (binaryOp .Mod) (rI (fun _ j=>0<j) fun i j=>.int (i%j)):=opI fun i j _ _ _ _ _ hc q=>by
  have h1:(0:Int)<j:=hc
  exact mod_int' (by omega) (by rw [Int.fmod_eq_emod_of_nonneg i (by omega)];exact q)
theorem yen:OpR X (binaryOp .Pow) (rI CPow fun i j=>.int (i^j.toNat)):=opI fun _ _ _ _ _ _ _ hc q=>pow_int_small hc.1 hc.2.1 hc.2.2 q
theorem zhi:OpR X (binaryOp .BitXor) (rI0 fun i j=>.int (Builtin.bitXor i j)):=opI0 fun _ _ _ _ _ _ _ q=>xor_int q
theorem zd0:OpR X (inplaceOp .Add) (rI0 fun i j=>.int (i+j)):=opI0 fun _ _ _ _ _ _ _ q=>iadd_int q
theorem zd8:OpR X (inplaceOp .Mult) (rI CMul fun i j=>.int (i*j)):=opI fun _ _ _ _ _ _ _ hc q=>imul_int q hc.ok
theorem unI {f:Value→Sem Value} {g:Int→Int}
    (rule:∀(i:Int) (t:Tok) (s:Shared) (Q:Value→Shared→Prop) (E:Value→Shared→Prop),Q (.int (g i) s.toks) { s with toks:=s.toks+1 }→wpAny (model X.prog X.w) X.A (f (.int i t)) Q E s) :
    UnR X f (rU fun i=>.int (g i)):=by
  intro pins s σ H x v Q I rx h
  obtain ⟨i,rfl,q⟩:=h
  obtain ⟨t,rfl⟩:=rx
  exact rule i t s _ _ ⟨.int (g i),H,I.tok _,⟨_,rfl⟩,q⟩
theorem yc7:UnR X (unaryOp .USub) (rU fun i=>.int (-i)):=unI fun _ _ _ _ _ q=>neg_int q
end
def scal:V→V→Bool
  | .non,.non=>true | .non,.int _=>true | .int _,.non=>true | .non,.bl _=>true | .bl _,.non=>true | .non,.str _=>true | .str _,.non=>true
  | .int _,.int _=>true | .bl _,.bl _=>true | .str _,.str _=>true | .byt _,.byt _=>true
  | .int _,.str _=>true | .str _,.int _=>true | .bl _,.str _=>true | .str _,.bl _=>true
  | _,_=>false
def rEq:R2:=fun x y H Q=>scal x y=true∧Q (.bl (decide (x=y))) H
def rNe:R2:=fun x y H Q=>scal x y=true∧Q (.bl (!decide (x=y))) H
theorem yfx {i j:Int}:decide (V.int i=V.int j)=(i==j):=by
  rw [Bool.eq_iff_iff]
  simp
theorem zgx {i j:Bool}:decide (V.bl i=V.bl j)=(i==j):=by
  rw [Bool.eq_iff_iff]
  simp
theorem yfp {i j:Str}:decide (V.str i=V.str j)=(i==j):=by
  rw [Bool.eq_iff_iff]
  simp
theorem zfL {i j:Array UInt8}:decide (V.byt i=V.byt j)=(i.toList==j.toList):=by
  rw [Bool.eq_iff_iff]
  cases i
  cases j
  simp
section
variable {X:Cx} {a b c:Expr} {ta tb tc:TE} {pos:Pos}
theorem yay {pins:List (Addr×Obj)} {σ:St} {H:Hp} {s:Shared} {Q:VK} {k k':Bool} (I:Inv X pins σ H s) (q:Q (.bl k) H) (e:k=k'):EP X pins σ Q (.bool k') s:=by
  subst e
  exact ⟨.bl k,H,I,rfl,q⟩
theorem zbr:OpR X (compareOp .Eq) rEq:=by
  intro pins s σ H x y v u Q I rx ry h
  obtain ⟨hs,q⟩:=h
  cases x with
  | non =>
    cases rx
    cases y with
    | non=>cases ry;exact PySem.EqNone.eq_none_none (yay I q (by simp))
    | bl j=>cases ry;exact PySem.EqNone.eq_none_bool (yay I q (by simp))
    | int j=>obtain ⟨t',rfl⟩:=ry;exact PySem.EqNone.eq_none_int (yay I q (by simp))
    | str j=>obtain ⟨t',rfl⟩:=ry;exact PySem.EqNone.eq_none_str (yay I q (by simp))
    | _=>exact absurd (show false=true from hs) Bool.false_ne_true
  | bl i =>
    cases rx
    cases y with
    | non=>cases ry;exact PySem.EqNone.eq_bool_none (yay I q (by simp))
    | bl j=>cases ry;exact eq_bool (yay I q zgx)
    | str j=>obtain ⟨t',rfl⟩:=ry;exact PySem.EqMixed.eq_bool_str (yay I q (by simp))
    | _=>exact absurd (show false=true from hs) Bool.false_ne_true
  | int i =>
    obtain ⟨t,rfl⟩:=rx
    cases y with
    | non=>cases ry;exact PySem.EqNone.eq_int_none (yay I q (by simp))
    | int j=>obtain ⟨t',rfl⟩:=ry;exact eq_int (yay I q yfx)
    | str j=>obtain ⟨t',rfl⟩:=ry;exact PySem.EqMixed.eq_int_str (yay I q (by simp))
    | _=>exact absurd (show false=true from hs) Bool.false_ne_true
  | str i =>
    obtain ⟨t,rfl⟩:=rx
    cases y with
    | non=>cases ry;exact PySem.EqNone.eq_str_none (yay I q (by simp))
    | bl j=>cases ry;exact PySem.EqMixed.eq_str_bool (yay I q (by simp))
    | int j=>obtain ⟨t',rfl⟩:=ry;exact PySem.EqMixed.eq_str_int (yay I q (by simp))
    | str j=>obtain ⟨t',rfl⟩:=ry;exact eq_str (yay I q yfp)
    | _=>exact absurd (show false=true from hs) Bool.false_ne_true
  | byt i =>
    obtain ⟨t,rfl⟩:=rx
    cases y with
    | byt j=>obtain ⟨t',rfl⟩:=ry;exact PySem.W.eq_bytes (yay I q zfL)
    | _=>exact absurd (show false=true from hs) Bool.false_ne_true
  | _=>cases y <;> exact absurd (show false=true from hs) Bool.false_ne_true
theorem zdr:OpR X (compareOp .NotEq) rNe:=by
  intro pins s σ H x y v u Q I rx ry h
  obtain ⟨hs,q⟩:=h
  cases x with
  | non =>
    cases rx
    cases y with
    | non=>cases ry;exact PySem.EqNone.ne_none_none (yay I q (by simp))
    | bl j=>cases ry;exact PySem.EqNone.ne_none_bool (yay I q (by simp))
    | int j=>obtain ⟨t',rfl⟩:=ry;exact PySem.EqNone.ne_none_int (yay I q (by simp))
    | str j=>obtain ⟨t',rfl⟩:=ry;exact PySem.EqNone.ne_none_str (yay I q (by simp))
    | _=>exact absurd (show false=true from hs) Bool.false_ne_true
  | bl i =>
    cases rx
    cases y with
    | non=>cases ry;exact PySem.EqNone.ne_bool_none (yay I q (by simp))
    | bl j=>cases ry;exact ne_bool (yay I q (congrArg not zgx))
    | str j=>obtain ⟨t',rfl⟩:=ry;exact PySem.EqMixed.ne_bool_str (yay I q (by simp))
    | _=>exact absurd (show false=true from hs) Bool.false_ne_true
  | int i =>
    obtain ⟨t,rfl⟩:=rx
    cases y with
    | non=>cases ry;exact PySem.EqNone.ne_int_none (yay I q (by simp))
    | int j=>obtain ⟨t',rfl⟩:=ry;exact ne_int (yay I q (congrArg not yfx))
    | str j=>obtain ⟨t',rfl⟩:=ry;exact PySem.EqMixed.ne_int_str (yay I q (by simp))
    | _=>exact absurd (show false=true from hs) Bool.false_ne_true
  | str i =>
    obtain ⟨t,rfl⟩:=rx
    cases y with
    | non=>cases ry;exact PySem.EqNone.ne_str_none (yay I q (by simp))
    | bl j=>cases ry;exact PySem.EqMixed.ne_str_bool (yay I q (by simp))
    | int j=>obtain ⟨t',rfl⟩:=ry;exact PySem.EqMixed.ne_str_int (yay I q (by simp))
    | str j=>obtain ⟨t',rfl⟩:=ry;exact ne_str (yay I q (congrArg not yfp))
    | _=>exact absurd (show false=true from hs) Bool.false_ne_true
  | byt i =>
    obtain ⟨t,rfl⟩:=rx
    cases y with
    | byt j=>obtain ⟨t',rfl⟩:=ry;exact PySem.W.ne_bytes (yay I q (congrArg not zfL))
    | _=>exact absurd (show false=true from hs) Bool.false_ne_true
  | _=>cases y <;> exact absurd (show false=true from hs) Bool.false_ne_true
theorem zgh:OpR X (compareOp .Lt) (rI0 fun i j=>.bl (decide (i<j))):=opB0 fun _ _ _ _ _ _ _ q=>lt_int q
theorem zgD:OpR X (compareOp .LtE) (rI0 fun i j=>.bl (decide (i≤j))):=opB0 fun _ _ _ _ _ _ _ q=>le_int q
theorem ycb:OpR X (compareOp .Gt) (rI0 fun i j=>.bl (decide (j<i))):=opB0 fun _ _ _ _ _ _ _ q=>gt_int q
theorem zho:OpR X (compareOp .GtE) (rI0 fun i j=>.bl (decide (j≤i))):=opB0 fun _ _ _ _ _ _ _ q=>ge_int q
theorem yal (b:Expr) {op:CmpOp} (h:op≠.In:=by decide) (h2:op≠.NotIn:=by decide):behindInMarks op b=false:=by
  have e1:(op==CmpOp.In)=false:=by cases op <;> first|rfl|exact absurd rfl h
  have e2:(op==CmpOp.NotIn)=false:=by cases op <;> first|rfl|exact absurd rfl h2
  cases b <;> simp [behindInMarks,e1,e2]
theorem ycn {op:CmpOp} {r:R2} (ho:OpR X (compareOp op) r) (ha:PE X a ta) (hb:PE X b tb) (hm:behindInMarks op b=false):PE X (.Compare a [op] [b] pos) (tOp r ta tb):=by
  intro pins s σ H Q I h
  exact wpAny_Compare1 (binT ha hb I h fun v u s2 x y H2 I2 rx ry q=>ho pins s2 σ H2 x y v u Q I2 rx ry q) hm
def yhu (t:TE):TT:=fun σ H Q=>t σ H fun x H'=>∃k,x = .bl k∧Q k H'
theorem zai {op:CmpOp} {r:R2} (ho:OpR X (compareOp op) r) (ha:PE X a ta) (hb:PE X b tb) (hm:behindInMarks op b=false):PT X (.Compare a [op] [b] pos) (yhu (tOp r ta tb)):=by
  intro pins s σ H Q I h
  refine wpAny_isTrue_Compare1 (thn (ha pins s σ H _ I h) fun v s1 ⟨x,H1,I1,r1,q1⟩=>thn (hb pins s1 σ H1 _ I1 q1) fun u s2 ⟨y,H2,I2,r2,q2⟩ =>
    thn (ho pins s2 σ H2 x y v u _ I2 r1 r2 q2) fun c s3 ⟨z,H3,I3,r3,k,e,q3⟩=>?_) hm
  subst e
  cases r3
  exact wpAny_truthy_bool ⟨H3,I3,q3⟩
theorem zcN:(sizeLine:Nat)<2^63:=by rw [sizeLine_eq];decide
theorem zcg {x:V} {us:List Value} (r:Vals [x] us):∃u,us=[u]∧RelV x u:=by
  cases r with
  | cons r1 r2=>cases r2;exact ⟨_,rfl,r1⟩
theorem zgY {x y:V} {us:List Value} (r:Vals [x,y] us):∃u w',us=[u,w']∧RelV x u∧RelV y w':=by
  cases r with
  | cons r1 r2 =>
    cases r2 with
    | cons r3 r4=>cases r4;exact ⟨_,_,rfl,r1,r3⟩
theorem yem:zbk X (.builtin "abs") (fun xs H Q=>∃i,xs=[.int i]∧Q (.int (if i<0 then -i else i)) H):=by
  intro pins s σ H xs us Q I r h
  obtain ⟨i,rfl,q⟩:=h
  obtain ⟨u,rfl,t,rfl⟩:=zcg r
  exact call_abs_int fun u tk=>⟨.int (if i<0 then -i else i),H,I.tok _,⟨_,rfl⟩,q⟩
theorem ydC (hc:X.calm=true):zbk X (.builtin "min") (fun xs H Q=>∃i j,xs=[.int i,.int j]∧Q (.int (if j<i then j else i)) H):=by
  intro pins s σ H xs us Q I r h
  obtain ⟨i,j,rfl,q⟩:=h
  obtain ⟨u,w',rfl,⟨t,rfl⟩,⟨t',rfl⟩⟩:=zgY r
  refine min_two_ints (I.ok.hd hc) fun h' tk k=>⟨_,H,I.kept k,?_,q⟩
  by_cases hj:j<i
  · rw [if_pos hj,if_pos hj];exact ⟨_,rfl⟩
  · rw [if_neg hj,if_neg hj];exact ⟨_,rfl⟩
theorem yfl:zbk X (.type "int") (fun xs H Q=>(∃i,xs=[.int i]∧Q (.int i) H)∨∃k,xs=[.bl k]∧Q (.int (if k then 1 else 0)) H):=by
  intro pins s σ H xs us Q I r h
  rcases h with ⟨i,rfl,q⟩ | ⟨k,rfl,q⟩
  · obtain ⟨u,rfl,t,rfl⟩:=zcg r
    exact call_int_int ⟨.int i,H,I,⟨_,rfl⟩,q⟩
  · obtain ⟨u,rfl,r1⟩:=zcg r
    cases r1
    exact call_int_bool ⟨.int (if k then 1 else 0),H,I.tok _,⟨_,rfl⟩,q⟩
end
end L2
namespace L2
open PySem PySem.Spec PyProof.Rows
structure ObjM (h:Heap) (x dx C:Addr) (mA:Str→Option Value):Prop where
  obj:h.get? x=some (PySem.W.instObj C dx)
  ns:h.Ns1 dx mA
  ne:dx≠x
section
variable {prog:Program} {w:World} {A:Around} {E:Value→Shared→Prop} {s:Shared} {K:PySem.W.Frag} {x dx C f:Addr} {mA:Str→Option Value} {name:Str} {v:Value}
end
theorem RelO.some_of {v:V} {o:Option Value} (r:RelO (some v) o):∃u,o=some u∧RelV v u:=by
  cases o with
  | none=>exact (show False from r).elim
  | some u=>exact ⟨u,rfl,r⟩
section
variable {P:Program} {w:World} {H H':Hp} {h h':Heap} {a C dx:Addr} {fs fs':List (Str×V)}
end
structure Cls (K:PySem.W.Frag) (C:Addr):Prop where
  pg:PySem.W.plainGet K C Str.empty=true
  hd:PySem.W.hasDictIn K C=true
  po:PySem.W.plainOver K C=true
  sa:PySem.W.findIn K (.ref C) "__setattr__"=some (some (.builtin "object.__setattr__"))
structure Con (K:PySem.W.Frag) (C:Addr) (f:Str) (v:V) (u:Value):Prop where
  at_:PySem.W.findIn K (.ref C) f=some (some u)
  rel:RelV v u
  get:PySem.W.specialIn K u "__get__"=some none
  cp:PySem.W.copiedNames.contains f=false
structure Meth (K:PySem.W.Frag) (C:Addr) (m:Str) (f:Addr):Prop where
  at_:PySem.W.findIn K (.ref C) m=some (some (.ref f))
  fn:PySem.W.isFn K (.ref f)=true
  kp:PySem.W.keepIn K (.ref f)=true
section
variable {X:Cx} {pins:List (Addr×Obj)} {σ:St} {H:Hp} {s:Shared} {a C dx:Addr} {fs:List (Str×V)} {f:Str} {v:V} {A:Around} {E:Value→Shared→Prop}
end
section
variable {X:Cx} {o e value:Expr} {f:Str} {pos pos' tpos:Pos} {ta tv:TE}
end
section
variable {X:Cx} {pins:List (Addr×Obj)} {σ:St} {H:Hp} {s:Shared} {A:Around} {E:Value→Shared→Prop} {Q:Value→Shared→Prop} {c:Value} {b:Bool}
inductive TyOf (K:PySem.W.Frag) (H:Hp):V→Value→Prop where
  | non:TyOf K H .non (.type "NoneType")
  | bl (x:Bool):TyOf K H (.bl x) (.type "bool")
  | int (i:Int):TyOf K H (.int i) (.type "int")
  | str (x:Str):TyOf K H (.str x) (.type "str")
  | flt (x:UInt64):TyOf K H (.flt x) (.type "float")
  | lst {a:Addr} {xs:List V} (e:H a=some (.lst xs)):TyOf K H (.ref a) (.type "list")
  | frz {a:Addr} {o:Obj} {xs:List V} (e:H a=some (.frz o (.lst xs))):TyOf K H (.ref a) (.type "list")
  | tup {a:Addr} {xs:List V} (e:H a=some (.tup xs)):TyOf K H (.ref a) (.type "tuple")
  | dK {a:Addr} {kvs:List (Key×V)} (e:H a=some (.dK kvs)):TyOf K H (.ref a) (.type "dict")
  | dT {a:Addr} {kvs:List (List Key×V)} (e:H a=some (.dT kvs)):TyOf K H (.ref a) (.type "dict")
  | ins {a C dx:Addr} {fs:List (Str×V)} (e:H a=some (.ins C dx fs)) (cl:Cls K C) (ha:PySem.W.findIn K (.ref C) "__class__"=some (some (.builtin "object.__class__")))
      (hn:PySem.W.specialIn K (.builtin "object.__class__") "__get__"=some (some (.builtin "getset_descriptor.__get__"))) (htk:PySem.W.takesIn K (.builtin "object.__class__")=some true)
      (hm:PySem.W.mroIn K C (.type "object")=some true):TyOf K H (.ref a) (.ref C)
end
end L2
namespace L2
open PySem PySem.Spec PyProof.Rows
structure Room (k:Nat) (A:Around):Prop where
  hd:A.handled=none
  dp:A.depth+3*k+5<recursionLimit
  un:A.units+16*k+200<cLine
  gd:A.guards=some []
theorem Room.mono {j k:Nat} {A:Around} (r:Room k A) (h:j≤k):Room j A:=⟨r.hd,by have:=r.dp;omega,by have:=r.un;omega,r.gd⟩
theorem Room.deeper {k:Nat} {A:Around} (r:Room (k+1) A) (env:Env):Room k (A.deeper env) :=
  ⟨r.hd,by have:=r.dp;show A.depth+1+3*k+5<_;omega,by have:=r.un;show A.units+3+16*k+200<_;omega,r.gd⟩
theorem Room.depth {k:Nat} {A:Around} (r:Room k A):A.depth<recursionLimit:=by have:=r.dp;omega
theorem Room.units {k:Nat} {A:Around} (r:Room k A):A.units+64<cLine:=by have:=r.un;omega
theorem Room.units0 {k:Nat} {A:Around} (r:Room k A):A.units<cLine:=by have:=r.un;omega
def tNil:TA:=fun _ H Q=>Q [] H
def ycX (ta:TE) (tr:TA):TA:=fun σ H Q=>ta σ H fun x H1=>tr σ H1 fun xs H2=>Q (x::xs) H2
section
variable {X:Cx} {e:Expr} {es:List Expr} {te:TE} {t:TA} {pos:Pos}
theorem yaa:PA X [] tNil:=fun _ _ _ _ H Q I h=>Calls.spliced_nil ⟨[],H,I,.nil,h⟩
theorem zaa (ha:PE X e te) (hr:PA X es t) (hs:starEach (e::es) X.env=(false,eval e X.env)::starEach es X.env:=by rfl):PA X (e::es) (ycX te t):=by
  intro pos pins s σ H Q I h
  rw [hs]
  show wpAny _ _ (spliced ((false,eval e X.env)::backTo pos (starEach es X.env))) _ _ s
  refine Calls.spliced_cons (thn (ha pins s σ H _ I h) fun u s1 ⟨x,H1,I1,r1,q1⟩=>?_)
  exact thn (hr pos pins s1 σ H1 _ I1 q1) fun us s2 ⟨xs,H2,I2,r2,q2⟩=>⟨x::xs,H2,I2,.cons r1 r2,q2⟩
def tTup (t:TA):TE:=fun σ H Q=>t σ H fun xs H1=>xs.length≤sizeLine∧∀p,H1 p=none→Q (.ref p) (upd H1 p (.tup xs))
def tLst (t:TA):TE:=fun σ H Q=>t σ H fun xs H1=>xs.length≤sizeLine∧∀p,H1 p=none→Q (.ref p) (upd H1 p (.lst xs))
theorem zaR {x1} (h:PA X es t):PE X (.Tuple es x1 pos) (tTup t):=by
  intro pins s σ H Q I hq
  refine wpAny_Tuple_spliced (thn (h pos pins s σ H _ I hq) fun us s1 ⟨xs,H1,I1,r,z,q⟩=>⟨by rw [←r.length];exact z,?_⟩)
  have hf:H1 s1.heap.objs.size=none:=I1.hok.fresh (Nat.le_refl _)
  refine ⟨.ref s1.heap.objs.size,upd H1 s1.heap.objs.size (.tup xs),I1.laid (t':=s1.toks) (fun b u e=>Heap.get?_push_of_some _ e) (Nat.le_refl _) ?_,rfl,q _ hf⟩
  exact ⟨z,us,r,⟨_,Heap.get?_push_size _ rfl,rfl,_,rfl⟩⟩
theorem zaE (h:PA X es t):PE X (.List es pos) (tLst t):=by
  intro pins s σ H Q I hq
  refine wpAny_List_spliced (thn (h pos pins s σ H _ I hq) fun us s1 ⟨xs,H1,I1,r,z,q⟩=>⟨by rw [←r.length];exact z,?_⟩)
  have hf:H1 s1.heap.objs.size=none:=I1.hok.fresh (Nat.le_refl _)
  refine ⟨.ref s1.heap.objs.size,upd H1 s1.heap.objs.size (.lst xs),I1.laid (t':=s1.toks) (fun b u e=>Heap.get?_push_of_some _ e) (Nat.le_refl _) ?_,rfl,q _ hf⟩
  exact ⟨z,us,0,r,Heap.get?_push_size _ rfl⟩
end
abbrev Sp:=List V→Hp→VK→XK→Prop
abbrev CXT:=List Env→Hp→Shared→XK→Value→Shared→Prop
structure Env0 (P:Program) (w:World) (K:PySem.W.Frag) (mg:Str→Option Value) (base:Heap) (A:Around) (outer:List Env) (s:Shared) (H:Hp):Prop where
  frames:A.frames=some outer
  mod:Mod K mg base
  bs:∀b o,base.get? b=some o→s.heap.get? b=some o∧H b=none
  bsz:base.objs.size≤s.heap.objs.size
  funs:s.heap.FunFrames base outer
  frf:∀b∈frs outer,H b=none
  hok:HOk P w H s.heap
  bare:AllBare s.gens
def CE (outer:List Env) (P:Program) (w:World) (H:Hp) (s:Shared) (Q:VK) (u:Value) (s':Shared):Prop :=
  ∃v H',s'.os=s.os∧AllBare s'.gens∧Un (frs outer) [] H H' s.heap s'.heap∧HOk P w H' s'.heap∧RelV v u∧Q v H'
def CR (CX:CXT) (outer:List Env) (P:Program) (w:World) (H:Hp) (s:Shared) (Q:VK) (E:XK) (r:Result) (s':Shared):Prop :=
  match r with
  | .ok (.ret u)=>CE outer P w H s Q u s'
  | .ok _=>False
  | .error e=>CX outer H s E e s'
structure FnOk (P:Program) (w:World) (K:PySem.W.Frag) (mg:Str→Option Value) (base:Heap) (CX:CXT) (k:Nat) (f:Addr) (fd:FuncData) (ps:List Str) (sp:Sp):Prop where
  len:∀vs H Q E,sp vs H Q E→vs.length=ps.length
  run:∀(A:Around) (outer:List Env) (s:Shared) (H:Hp) (args:Args) (us:List Value) (vs:List V) (Q:VK) (E:XK),Room k A→Env0 P w K mg base A outer s H→BindsTo s fd args (ps.zip us)→Vals vs us→sp vs H Q E→
    codeAny (model P w) A (.call (.ref f) args) (CR CX outer P w H s Q E) s
section
variable {X:Cx} {pins:List (Addr×Obj)} {σ:St} {H:Hp} {s s':Shared}
theorem Inv.env0 (I:Inv X pins σ H s):Env0 X.prog X.w X.K X.mg X.base X.A X.stack s H :=
  ⟨I.ok.frames,I.ok.mod,I.bs,Nat.le_trans I.ok.bsz I.sz,I.stack,I.stkFree,I.hok,I.bare⟩
theorem Inv.after {Q:VK} {u:Value} (I:Inv X pins σ H s) (h:CE X.stack X.prog X.w H s Q u s'):EP X pins σ Q u s':=by
  obtain ⟨v,H',os,bare,un,hok,r,q⟩:=h
  obtain ⟨hh,g,d,t,os'⟩:=s'
  obtain rfl:os'=s.os:=os
  exact ⟨v,H',I.call (h':=hh) (g':=g) (d':=d) (t':=t) (ch:=[]) un hok bare (fun b z=>absurd z (by simp)),r,q⟩
end
def zgZ (sp:Sp) (dvs:List V) (E:XK) (t:TA):TE:=fun σ H Q=>t σ H fun vs H1=>sp (vs++dvs) H1 Q E
def yeG (K:PySem.W.Frag) (fd:FuncData) (ps:List Str) (ds:List Value):Prop :=
  ∀(s:Shared) (us:List Value),K.In s.heap→(us++ds).length=ps.length→BindsTo s fd ⟨us,[]⟩ (ps.zip (us++ds))
theorem yeG.all {K:PySem.W.Frag} {fd:FuncData} {ps:List Str} (h:∀us:List Value,us.length=ps.length→bindArgs fd ⟨us,[]⟩=pure (ps.zip us)):yeG K fd ps []:=fun s us _ hl=>by
  rw [List.append_nil] at hl ⊢
  exact .of_eq (h us hl)
def yeY (CX:CXT) (X:Cx) (E:XK):Prop:=∀(pins:List (Addr×Obj)) (σ:St) (H:Hp) (s:Shared) (e:Value) (s':Shared),Inv X pins σ H s→CX X.stack H s E e s'→X.xe e s'
section
variable {X:Cx} {CX:CXT} {k:Nat} {f C:Addr} {fd:FuncData} {ps:List Str} {sp:Sp} {dvs:List V} {ds:List Value} {E:XK} {x m:Str} {p pos apos:Pos} {e o:Expr} {es:List Expr} {ta:TE} {t:TA}
theorem yg2 {pins:List (Addr×Obj)} {σ:St} {H:Hp} {s:Shared} {Q:VK} {us:List Value} {vs:List V} (F:FnOk X.prog X.w X.K X.mg X.base CX k f fd ps sp) (hr:Room k X.A) (hb:yeG X.K fd ps ds) (hd:Vals dvs ds) (hx:yeY CX X E)
    (I:Inv X pins σ H s) (r:Vals vs us) (h:sp (vs++dvs) H Q E):wpAny (model X.prog X.w) X.A (call (.ref f) us) (EP X pins σ Q) X.xe s:=by
  have r2:Vals (vs++dvs) (us++ds):=r.append hd
  have hl:(us++ds).length=ps.length:=by rw [←r2.length];exact F.len _ _ _ _ h
  refine wpAny_call (codeAny_mono (F.run X.A X.stack s H ⟨us,[]⟩ (us++ds) (vs++dvs) Q E hr I.env0 (hb s us I.kIn hl) r2 h) fun r s' hq=>?_)
  cases r with
  | error e=>exact hx pins σ H s e s' I hq
  | ok fl =>
    cases fl with
    | ret u=>exact I.after hq
    | next=>exact False.elim hq
    | brk=>exact False.elim hq
    | cont=>exact False.elim hq
theorem ygz (F:FnOk X.prog X.w X.K X.mg X.base CX k f fd ps sp) (hr:Room k X.A) (hg:Gl X x) (hm:X.mg x=some (.ref f)) (hk:PySem.W.keepIn X.K (.ref f)=true) (hb:yeG X.K fd ps ds) (hd:Vals dvs ds) (hx:yeY CX X E)
    (ha:PA X (e::es) t) (hdb:(x==("__debug__":Str))=false:=by decide) (he:starEach (e::es) X.env=(false,eval e X.env)::starEach es X.env:=by rfl) (hpl:(backTo pos (starEach es X.env)).any (·.1)=false:=by rfl) :
    PE X (.Call (.Name x p) (e::es) [] pos) (zgZ sp dvs E t):=by
  intro pins s σ H Q I h
  refine wpAny_Call_Name_kw (ygE I hg hm ?_ hdb)
  refine PySem.W.callWith_K (h₀:=X.base) I.ok.mod.kin hk (thn (ha pos pins s σ H _ I h) fun us s1 ⟨vs,H1,I1,r,q⟩=>⟨I1.kIn,?_⟩) he hpl
  exact yg2 F hr hb hd hx I1 r q
structure Mk (K:PySem.W.Frag) (C f:Addr):Prop where
  makes:PySem.W.makesIn K C=true
  init:PySem.W.findIn K (.ref C) "__init__"=some (some (.ref f))
  fn:PySem.W.isFn K (.ref f)=true
  kp:PySem.W.keepIn K (.ref C)=true
end
section
variable {X:Cx} {CX:CXT} {k:Nat} {f C:Addr} {fd:FuncData} {ps ks:List Str} {sp:Sp} {E:XK} {x m:Str} {p pos apos kpos:Pos} {e o:Expr} {es:List Expr} {kws:List Keyword} {te ta:TE} {t tk:TA} {nm:Option Str}
structure KBinds (K:PySem.W.Frag) (fd:FuncData) (ps ks:List Str) (g:List Value→List Value→List Value) (gV:List V→List V→List V):Prop where
  to:∀(s:Shared) (us ws:List Value),K.In s.heap→(g us ws).length=ps.length→BindsTo s fd ⟨us,ks.zip ws⟩ (ps.zip (g us ws))
  rel:∀ {vs:List V} {us:List Value} {zs:List V} {ws:List Value},Vals vs us→Vals zs ws→Vals (gV vs zs) (g us ws)
variable {g:List Value→List Value→List Value} {gV:List V→List V→List V}
end
structure yaj (N P:List Str) (sc:Scope):Prop where
  kind:sc.kind = .function
  co:sc.isCoroutine=false
  gen:sc.isGenerator=false
  nd:N.Nodup
  pre:N.take P.length=P
  par:∀x∈P,sc.names.lookup x=some .local∨sc.names.lookup x=some .cell
  nofree:∀y∈sc.names,y.2≠.free
theorem ydU {kindOf:Str→Option NameKind} {x:Str}:∀ {binds:List (Str×Value)} {m:Str→Option Value},(∀v,(x,v)∉binds)→bindL kindOf binds m x=m x
  | [],_,_=>rfl
  | (n,v)::r,m,h=>by
    unfold bindL
    rw [ydU fun w hw=>h w (List.mem_cons_of_mem _ hw)]
    split
    · have:x≠n:=by rintro rfl;exact h v List.mem_cons_self
      simp [this]
    · rfl
theorem ydx {kindOf:Str→Option NameKind} {x:Str}:∀ {binds:List (Str×Value)} {m:Str→Option Value},(∀v,(x,v)∉binds)→bindC kindOf binds m x=m x
  | [],_,_=>rfl
  | (n,v)::r,m,h=>by
    unfold bindC
    rw [ydx fun w hw=>h w (List.mem_cons_of_mem _ hw)]
    split
    · rfl
    · have:x≠n:=by rintro rfl;exact h v List.mem_cons_self
      simp [this]
theorem ydK {kindOf:Str→Option NameKind} {x:Str} {v:Value}:∀ {P:List Str} {vs:List Value} {i:Nat} {m:Str→Option Value},P.Nodup→P[i]?=some x→vs[i]?=some v→kindOf x=some .local→
    bindL kindOf (P.zip vs) m x=some v
  | [],_,_,_,_,h,_,_=>by simp at h
  | _::_,[],_,_,_,_,h,_=>by simp at h
  | p::P,w::vs,0,m,nd,h1,h2,hk=>by
    simp at h1 h2;subst h1;subst h2
    show bindL kindOf ((p,w)::P.zip vs) m p=_
    unfold bindL
    rw [ydU fun v hv=>(List.nodup_cons.mp nd).1 (List.of_mem_zip hv).1,if_pos hk]
    simp
  | p::P,w::vs,i+1,m,nd,h1,h2,hk=>by
    show bindL kindOf ((p,w)::P.zip vs) m x=_
    unfold bindL
    exact ydK (i:=i) (List.nodup_cons.mp nd).2 (by simpa using h1) (by simpa using h2) hk
theorem zdU {kindOf:Str→Option NameKind} {x:Str} {v:Value}:∀ {P:List Str} {vs:List Value} {i:Nat} {m:Str→Option Value},P.Nodup→P[i]?=some x→vs[i]?=some v→kindOf x≠some .local→
    bindC kindOf (P.zip vs) m x=some v
  | [],_,_,_,_,h,_,_=>by simp at h
  | _::_,[],_,_,_,_,h,_=>by simp at h
  | p::P,w::vs,0,m,nd,h1,h2,hk=>by
    simp at h1 h2;subst h1;subst h2
    show bindC kindOf ((p,w)::P.zip vs) m p=_
    unfold bindC
    rw [ydx fun v hv=>(List.nodup_cons.mp nd).1 (List.of_mem_zip hv).1,if_neg hk]
    simp
  | p::P,w::vs,i+1,m,nd,h1,h2,hk=>by
    show bindC kindOf ((p,w)::P.zip vs) m x=_
    unfold bindC
    exact zdU (i:=i) (List.nodup_cons.mp nd).2 (by simpa using h1) (by simpa using h2) hk
def zdS (N:List Str) (vs:List V):St:=vs.map some++List.replicate (N.length-vs.length) none
def cxOf (CX:CXT) (P:Program) (w:World) (K:PySem.W.Frag) (mg:Str→Option Value) (base:Heap) (N:List Str) (qual:Str) (scope:Scope) (f:Addr) (cd:Value) (A:Around) (outer:List Env) (s:Shared) (H:Hp) (E:XK):Cx where
  prog:=P
  w:=w
  K:=K
  mg:=mg
  base:=base
  A:=A.deeper (envOfC qual scope s.heap.objs.size f cd)
  N:=N
  s₀:=s
  H₀:=H
  env:=envOfC qual scope s.heap.objs.size f cd
  outer:=outer
  stack:=envOfC qual scope s.heap.objs.size f cd::outer
  ex:=[]
  calm:=true
  fn:=fun _=>true
  pn:=[]
  xe:=fun e s'=>wpAny (model P w) (A.deeper (envOfC qual scope s.heap.objs.size f cd)) (leaving (envOfC qual scope s.heap.objs.size f cd) e) (fun _ s''=>CX outer H s E e s'') (fun e' s''=>CX outer H s E e' s'') s'
theorem zeu {sc:Scope} {n:Nat} {x:Str} (h:sc.names.lookup x=some .cell):∃c,(cellsFrom n sc.names []).lookup x=some c:=by
  have q:=PySem.W.cellsFrom_some sc.names n [] (.inl h)
  exact Option.isSome_iff_exists.mp q
theorem yfI {CX:CXT} {P:Program} {w:World} {K:PySem.W.Frag} {mg:Str→Option Value} {base:Heap} {N ps:List Str} {qual:Str} {scope:Scope} {f:Addr} {cd:Value} {A:Around} {outer:List Env} {s s1:Shared} {H:Hp} {E:XK} {us:List Value} {vs:List V}
    (S:yaj N ps scope) (hd:A.handled=none) (e0:Env0 P w K mg base A outer s H) (hl:vs.length=ps.length) (r:Vals vs us)
    (x:InCallC s s.heap.objs.size (bindL (envOfC qual scope s.heap.objs.size f cd).kindOf (ps.zip us) fun _=>none) (cellsFrom (s.heap.objs.size+1) scope.names []) (bindC (envOfC qual scope s.heap.objs.size f cd).kindOf (ps.zip us) fun _=>none) s1) :
    Inv (cxOf CX P w K mg base N qual scope f cd A outer s H E) [] (zdS N vs) H s1:=by
  have hpl:ps.length≤N.length:=by have:=congrArg List.length S.pre;rw [List.length_take] at this;omega
  obtain ⟨h1,tk,rfl,hk⟩:=x.done
  have noA:∀b:Addr,b∉(cxOf CX P w K mg base N qual scope f cd A outer s H E).ex:=fun b z=>absurd (show b∈([]:List Addr) from z) (by simp)
  refine ⟨⟨e0.mod,S.kind,rfl,rfl,Nat.le_refl _,fun y z c h1 h2=>?_,fun y hy=>?_,fun y c _ h=>?_,fun _=>hd,Around.frames_deeper e0.frames,.inr ⟨rfl,rfl⟩,fun b z=>absurd z (noA b),e0.bs,e0.bsz,fun b _ _=>noA b,fun b z=>absurd z (noA b),e0.funs,e0.frf⟩,
    rfl,e0.bare,Un.kept hk,⟨_,x.toInCall.ns,fun i y v h1 h2 h3=>?_⟩,fun y c h=>⟨_,x.cell y c h⟩,e0.hok.fresh (Nat.le_refl _),fun y c h=>?_,fun p hp=>absurd (show p∈([]:List (Addr×Obj)) from hp) (by simp),e0.hok.kept hk,?_⟩
  · exact name_of_addr x.apart (PySem.mem_of_lookup h1) (PySem.mem_of_lookup h2)
  · have hy:scope.names.lookup y=some .cell∨scope.names.lookup y=some .free:=hy
    rcases hy with hy|hy
    · exact zeu hy
    · exact absurd rfl (S.nofree _ (PySem.mem_of_lookup hy))
  · exact Nat.le_of_lt (x.above y c (PySem.mem_of_lookup h))
  · have hi:i<vs.length:=by
      unfold zdS at h2
      by_cases hi:i<vs.length
      · exact hi
      · rw [List.getElem?_append_right (by simpa using hi)] at h2
        rw [List.getElem?_replicate] at h2
        split at h2 <;> cases h2
    have ha:vs[i]?=some v:=by
      unfold zdS at h2
      rw [List.getElem?_append_left (by simpa using hi),List.getElem?_map] at h2
      cases e:vs[i]? with
      | none=>rw [e] at h2;cases h2
      | some a=>rw [e] at h2;cases h2;rfl
    obtain ⟨u,hu,rv⟩:=r.get ha
    have hp:ps[i]?=some y:=by
      rw [←S.pre,List.getElem?_take_of_lt (by omega)];exact h1
    have ndP:ps.Nodup:=by rw [←S.pre];exact S.nd.sublist (List.take_sublist _ _)
    refine ⟨u,rv,?_⟩
    rcases S.par y (List.mem_of_getElem? hp) with k|k
    · exact .inl ⟨k,ydK ndP hp hu k⟩
    · obtain ⟨c,e⟩:=zeu (n:=s.heap.objs.size+1) k
      refine .inr ⟨.inl k,c,e,?_⟩
      have q:=x.cell y c e
      rw [zdU ndP hp hu (by show scope.names.lookup y≠_;rw [k];decide)] at q
      exact q
  · exact e0.hok.fresh (Nat.le_of_lt (x.above y c (PySem.mem_of_lookup h)))
  · unfold zdS
    show _=N.length
    rw [List.length_append,List.length_map,List.length_replicate]
    omega
theorem yho {CX:CXT} {P:Program} {w:World} {K:PySem.W.Frag} {mg:Str→Option Value} {base:Heap} {k:Nat} {f:Addr} {name qual:Str} {params:Arguments} {body:List Stmt} {scope:Scope} {dV kV doc pm cdv ct oc:Value} {an od:Option Addr}
    {osl:Array (Option Value)} {N ps:List Str} {sp:Sp} (lk:K.lookup f=some ⟨oc,od,.func (PySem.W.fnOf name qual params body scope dV kV doc pm an cdv ct),osl⟩) (hcd:PySem.W.codeIn K cdv qual=true) (S:yaj N ps scope)
    (len:∀vs H Q E,sp vs H Q E→vs.length=ps.length)
    (hbody:∀(A:Around) (outer:List Env) (s:Shared) (H:Hp) (vs:List V) (Q:VK) (E:XK),Room k (A.deeper (envOfC qual scope s.heap.objs.size f cdv))→sp vs H Q E→
      ∃t,PSs (cxOf CX P w K mg base N qual scope f cdv A outer s H E) body t∧t { nx:=fun _ H'=>Q .non H',rt:=Q } (zdS N vs) H) :
    FnOk P w K mg base CX (k+1) f (PySem.W.fnOf name qual params body scope dV kV doc pm an cdv ct) ps sp:=by
  refine ⟨len,fun A outer s H args us vs Q E hr e0 hb r hsp=>?_⟩
  have hl:=len _ _ _ _ hsp
  have KX:K.In s.heap:=e0.mod.kin.keeps fun b o e=>(e0.bs b o e).1
  have lim:s.heap.NoLimit:=e0.mod.nolimit.keeps fun b o e=>(e0.bs b o e).1
  have hkind:∀y∈ps.zip us,scope.names.lookup y.1=some .local∨(scope.names.lookup y.1=some .cell∧((cellsFrom (s.heap.objs.size+1) scope.names []).lookup y.1).isSome=true):=fun ⟨n,v⟩ hy=>by
    rcases S.par n (List.of_mem_zip hy).1 with q|q
    · exact .inl q
    · exact .inr ⟨q,PySem.W.cellsFrom_some _ _ _ (.inl q)⟩
  refine codeAny_call_function hr.depth (KX _ _ lk) rfl S.co S.gen rfl (PySem.W.codeRec_of KX hcd) (hb _ _ _ _ ?_)
  refine wpAny_newFunctionEnv_cells S.kind hkind fun env he s1 x=>?_
  subst he
  refine ⟨lim.keeps x.toInCall.keep,codeAny_func ?_⟩
  obtain ⟨t,ht,hq⟩:=hbody A outer s H vs Q E (hr.deeper _) hsp
  have I:Inv (cxOf CX P w K mg base N qual scope f cdv A outer s H E) [] (zdS N vs) H s1:=yfI S hr.hd e0 hl r x
  refine wpAny_mono (ht [] s1 (zdS N vs) H _ I hq) (fun fl s' hs=>?_) fun e s' hs=>hs
  have fin:∀ {σ':St} {H':Hp} {v:V} {u:Value},Inv (cxOf CX P w K mg base N qual scope f cdv A outer s H E) [] σ' H' s'→RelV v u→Q v H'→CE outer P w H s Q u s' :=
    fun {σ' H' v u} J rv q=>⟨v,H',J.os,J.bare,J.base,J.hok,rv,q⟩
  cases fl with
  | ret u =>
    obtain ⟨v,σ',H',J,rv,q⟩:=hs
    exact fin J rv q
  | next =>
    obtain ⟨σ',H',J,q⟩:=hs
    exact fin (v:=V.non) (u:=Value.none) J rfl q
  | brk =>
    obtain ⟨_,_,_,q⟩:=hs
    exact False.elim q
  | cont =>
    obtain ⟨_,_,_,q⟩:=hs
    exact False.elim q
end L2
namespace L2
open PySem PySem.Spec PyProof.Rows
section
variable {X:Cx} {x:Str} {p pos:Pos} {e:Expr} {es:List Expr} {t:TA} {id T:String} {r:List V→Hp→VK→Prop}
def tCB (r:List V→Hp→VK→Prop) (t:TA):TE:=fun σ H Q=>t σ H fun vs H1=>r vs H1 Q
theorem zak (hc:zbk X (.builtin id) r) (hg:Gl X x) (hm:X.mg x=none) (hv:bootBuiltins x=some (.builtin id)) (ha:PA X (e::es) t) (hn:x≠"__name__":=by decide) (hdb:(x==("__debug__":Str))=false:=by decide)
    (he:starEach (e::es) X.env=(false,eval e X.env)::starEach es X.env:=by rfl) (hpl:(backTo pos (starEach es X.env)).any (·.1)=false:=by rfl):PE X (.Call (.Name x p) (e::es) [] pos) (tCB r t):=by
  intro pins s σ H Q I h
  refine wpAny_Call_Name_kw (ybO I hg hm hv ?_ hn hdb)
  exact PyProof.Rows.callWith_builtin1 (thn (ha pos pins s σ H _ I h) fun us s1 ⟨vs,H1,I1,r1,q1⟩=>hc pins s1 σ H1 vs us Q I1 r1 q1) he hpl
theorem yaq (hc:zbk X (.type T) r) (hg:Gl X x) (hm:X.mg x=none) (hv:bootBuiltins x=some (.type T)) (ha:PA X (e::es) t) (hn:x≠"__name__":=by decide) (hdb:(x==("__debug__":Str))=false:=by decide)
    (he:starEach (e::es) X.env=(false,eval e X.env)::starEach es X.env:=by rfl) (hpl:(backTo pos (starEach es X.env)).any (·.1)=false:=by rfl):PE X (.Call (.Name x p) (e::es) [] pos) (tCB r t):=by
  intro pins s σ H Q I h
  refine wpAny_Call_Name_kw (ybO I hg hm hv ?_ hn hdb)
  exact PyProof.Rows.callWith_type1 (thn (ha pos pins s σ H _ I h) fun us s1 ⟨vs,H1,I1,r1,q1⟩=>hc pins s1 σ H1 vs us Q I1 r1 q1) he hpl
end
end L2
namespace HT
open PySem PyProof.Rows
section
open PySem.SeqAt
open PySem.AutoSeq1 (wpAny_loadPart')
open PySem.MeetsSeq PySem.MeetsSeq2 PySem.MeetsSeq3
end
section
variable {prog:Program} {w:World} {A:Around} {E:Value→Shared→Prop} {s:Shared}
theorem cat_tup {t b:Addr} {vs ws:List Value} {Q:Value→Shared→Prop} (ht:IsTup s.heap t vs.toArray) (hb:IsTup s.heap b ws.toArray) (hv:vs≠[])
    (h1:ws=[]→Q (.ref t) s) (h2:ws≠[]→Q (.ref s.heap.objs.size) { s with heap:=s.heap.push { cls:=.type "tuple",data:=.seq (vs++ws).toArray } })
    (hsz:vs.length+ws.length≤sizeLine):wpAny (model prog w) A (binaryOp .Add (.ref t) (.ref b)) Q E s:=by
  obtain ⟨⟨cls,dd,data,sl⟩,ho,hc,n,hd⟩:=id ht
  obtain ⟨⟨cls2,dd2,data2,sl2⟩,ho2,hc2,n2,hd2⟩:=id hb
  simp only at hc hd hc2 hd2
  subst hc hd hc2 hd2
  have e:vs.toArray++ws.toArray=(vs++ws).toArray:=by simp
  by_cases hw:ws=[]
  · exact concat_meets ⟨_,ho,rfl⟩ ⟨_,ho2,rfl⟩ noFill_tuple_add seq_tuple_add PySem.F.slot_tuple_add PySem.F.entry_tuple_add (PySem.F.args_tuple_add_2 _ _)
      (tuple_addW1 t b vs.toArray ws.toArray n n2 dd dd2 sl sl2 (by simpa using hv) (by simp [hw])) ⟨ho,ho2,h1 hw⟩
  · refine concat_meets ⟨_,ho,rfl⟩ ⟨_,ho2,rfl⟩ noFill_tuple_add seq_tuple_add PySem.F.slot_tuple_add PySem.F.entry_tuple_add (PySem.F.args_tuple_add_2 _ _)
      (tuple_addW2 t b vs.toArray ws.toArray n n2 dd dd2 sl sl2 (by simpa using hv) (by simpa using hw) (by rw [List.size_toArray,List.size_toArray];exact hsz)) ⟨ho,ho2,?_⟩
    rw [e]
    exact h2 hw
def sIx (n d:Nat):Option Int→Nat
  | none=>d
  | some v=>if v<0 then (v+(n:Int)).toNat else min v.toNat n
theorem sIx_none (n d:Nat):sIx n d none=d:=rfl
theorem sIx_nat (n d k:Nat):sIx n d (some (k:Int))=min k n:=by
  show (if (k:Int)<0 then ((k:Int)+(n:Int)).toNat else min (k:Int).toNat n)=min k n
  rw [if_neg (by omega),Int.toNat_natCast]
theorem zg0 (n d:Nat) (hd:d≤n) (o:Option Int):sIx n d o≤n:=by
  cases o with
  | none=>exact hd
  | some v =>
    show (if v<0 then (v+(n:Int)).toNat else min v.toNat n)≤n
    by_cases hv:v<0
    · rw [if_pos hv];omega
    · rw [if_neg hv];exact Nat.min_le_right _ _
theorem ye8 (v:Int) (n d:Nat):(if v<0 then max (v+(n:Int)) 0 else min v (n:Int))=((sIx n d (some v):Nat):Int):=by
  show (if v<0 then max (v+(n:Int)) 0 else min v (n:Int))=(((if v<0 then (v+(n:Int)).toNat else min v.toNat n):Nat):Int)
  by_cases hv:v<0
  · simp only [if_pos hv];omega
  · simp only [if_neg hv];omega
theorem yeH (lo hi:Option Int) (n:Nat):Builtin.Slice.sliceAdjust lo hi 1 (n:Int)=(((sIx n 0 lo:Nat):Int),((sIx n n hi:Nat):Int)):=by
  have h1:¬ ((1:Int)<0):=by omega
  unfold Builtin.Slice.sliceAdjust
  simp only [h1,if_false]
  refine Prod.ext ?_ ?_
  · cases lo with
    | none=>rfl
    | some v=>exact ye8 v n 0
  · cases hi with
    | none=>rfl
    | some v=>exact ye8 v n n
theorem yeM (i j:Nat):Builtin.Slice.slicePlaces (i:Int) (j:Int) 1=j-i:=by
  unfold Builtin.Slice.slicePlaces
  have h1:(1:Int)>0:=by omega
  simp only [h1,if_true,Int.ediv_one]
  split <;> omega
theorem ycm {v:Value} {o:Option Int} {Q:Option Int→Shared→Prop} (p:IsPart v o) (h:Q o s):wpAny (model prog w) A (Builtin.Slice.slicePartIndex v) Q E s:=by
  cases p with
  | none=>exact slicePart_none h
  | int i t=>exact slicePart_int h
theorem zbP {sl:Addr} {vl vu:Value} {lo hi:Option Int} {n:Nat} {Q:Int×Int×Nat→Shared→Prop} (hs:s.heap.IsSliceOf sl vl vu .none) (pl:IsPart vl lo) (pu:IsPart vu hi)
    (h:Q (((sIx n 0 lo:Nat):Int),1,sIx n n hi-sIx n 0 lo) s):wpAny (model prog w) A (Builtin.Slice.sliceApplied (.ref sl) (pure (n:Int))) Q E s:=by
  obtain ⟨os,hos,hcs,hds⟩:=id hs
  unfold Builtin.Slice.sliceApplied Builtin.Slice.sliceFields
  refine wpAny_bind (wpAny_bind (wpAny_field hos hds (x:=vl) rfl (wpAny_bind (wpAny_field hos hds (x:=vu) rfl (wpAny_bind (wpAny_field hos hds (x:=.none) rfl (wpAny_pure ?_)))))))
  refine wpAny_bind (slicePart_none ?_)
  show wpAny _ _ (if ((1:Int)==0)=true then _ else _) _ _ s
  rw [if_neg (by decide)]
  refine wpAny_bind (ycm pl (wpAny_bind (ycm pu (wpAny_bind (wpAny_pure ?_)))))
  show wpAny _ _ (match Builtin.Slice.sliceAdjust lo hi 1 (n:Int) with|(lo,hi)=>pure (lo,(1:Int),Builtin.Slice.slicePlaces lo hi 1)) _ _ s
  rw [yeH lo hi n]
  show wpAny _ _ (pure (((sIx n 0 lo:Nat):Int),(1:Int),Builtin.Slice.slicePlaces ((sIx n 0 lo:Nat):Int) ((sIx n n hi:Nat):Int) 1)) _ _ s
  rw [yeM]
  exact wpAny_pure h
theorem yfX (xs:Array Value) (i k:Nat):((List.range k).filterMap fun (m:Nat)=>xs[((i:Int)+(m:Int)*1).toNat]?).toArray=((xs.toList.drop i).take k).toArray:=by
  have e:(fun (m:Nat)=>xs[((i:Int)+(m:Int)*1).toNat]?)=fun m=>xs[i+m]?:=by
    funext m
    have:((i:Int)+(m:Int)*1).toNat=i+m:=by omega
    rw [this]
  rw [e]
  have:=pick_run xs i k
  rw [List.filterMap_map] at this
  have e2:((fun x=>xs[x]?) ∘ fun x=>i+x)=fun m=>xs[i+m]?:=rfl
  rw [e2] at this
  rw [this]
theorem getItem_tuple_cut {t sl:Addr} {items:Array Value} {vl vu:Value} {lo hi:Option Int} {Q:Value→Shared→Prop} (ht:IsTup s.heap t items) (hs:s.heap.IsSliceOf sl vl vu .none) (pl:IsPart vl lo) (pu:IsPart vu hi)
    (hw:¬ (sIx items.size 0 lo=0∧sIx items.size items.size hi=items.size))
    (h:Q (.ref s.heap.objs.size) { s with heap:=s.heap.push { cls:=.type "tuple",data:=.seq ((items.toList.drop (sIx items.size 0 lo)).take (sIx items.size items.size hi-sIx items.size 0 lo)).toArray } })
    (hsz:items.size≤sizeLine):wpAny (model prog w) A (getItem (.ref t) (.ref sl)) Q E s:=by
  have htake:sizeOk (.seq ((items.toList.drop (sIx items.size 0 lo)).take (sIx items.size items.size hi-sIx items.size 0 lo)).toArray):=by
    show ((items.toList.drop (sIx items.size 0 lo)).take (sIx items.size items.size hi-sIx items.size 0 lo)).toArray.size≤sizeLine
    rw [List.size_toArray,List.length_take,List.length_drop,Array.length_toList]
    omega
  have hj:sIx items.size items.size hi≤items.size:=zg0 _ _ (Nat.le_refl _) hi
  obtain ⟨os,hos,hcs,hds⟩:=id hs
  have hTs:s.TypeIs (.ref sl) "slice":=⟨os,hos,hcs⟩
  unfold getItem
  try with_reducible refine wpAny_holding ?_
  first|refine wpAny_bind (wpAny_pure ?_)|skip
  refine wpAny_bind (wpAny_sequenceKey ht.typeIs (by decide) ?_)
  refine wpAny_bind (wpAny_callSpecial?_slot (name:=Str.ofString "__getitem__") ht.typeIs PyProof.Rows.slot_tuple_getitem
    (wpAny_call_entry PyProof.Rows.slot_tuple_getitem ht.typeIs entry_tuple_getitem ?_ (args_tuple_getitem _ _)))
  show wpAny _ _ (Builtin.Tuple.tupleItemsOf (.ref t) >>= _) _ _ s
  refine wpAny_bind (tupleItemsOf_ ht ?_)
  refine wpAny_bind (wpAny_typeOf hTs ?_)
  rw [if_pos (by decide)]
  refine wpAny_bind (zbP hs pl pu ?_)
  have hno:¬ ((((sIx items.size 0 lo:Nat):Int)==0&&(1:Int)==1&&(sIx items.size items.size hi-sIx items.size 0 lo)==items.size)=true):=by
    intro q
    rw [Bool.and_eq_true,Bool.and_eq_true] at q
    have q1:((sIx items.size 0 lo:Nat):Int)=0:=eq_of_beq q.1.1
    have q2:sIx items.size items.size hi-sIx items.size 0 lo=items.size:=eq_of_beq q.2
    exact hw ⟨by omega,by omega⟩
  show wpAny _ _ (if (((sIx items.size 0 lo:Nat):Int)==0&&(1:Int)==1&&(sIx items.size items.size hi-sIx items.size 0 lo)==items.size)=true then _ else _) _ _ s
  rw [if_neg hno,yfX]
  first
    | exact wpAny_bind (m:=Builtin.Tuple.tupleExact _) (wpAny_newObj_type (wpAny_pure ⟨_,rfl,wpAny_pure h⟩) htake)
    | exact wpAny_bind (m:=Builtin.Tuple.tupleExact _) (wpAny_newObj_type (wpAny_bind (wpAny_pure (wpAny_pure ⟨_,rfl,wpAny_pure h⟩))) htake)
    | exact wpAny_bind (wpAny_bind (m:=Builtin.Tuple.tupleExact _) (wpAny_newObj_type (wpAny_pure (wpAny_pure ⟨_,rfl,wpAny_pure h⟩)) htake))
    | exact wpAny_bind (wpAny_bind (m:=Builtin.Tuple.tupleExact _) (wpAny_newObj_type (wpAny_pure ⟨_,rfl,wpAny_pure h⟩) htake))
end
end HT
namespace L2
open PySem PySem.Spec PyProof.Rows
abbrev TO:=St→Hp→(Option Int→Hp→Prop)→Prop
def PO (X:Cx) (e:Option Expr) (t:TO):Prop :=
  ∀(pins:List (Addr×Obj)) (s:Shared) (σ:St) (H:Hp) (Q:Option Int→Hp→Prop),Inv X pins σ H s→t σ H Q→
    wpAny (model X.prog X.w) X.A (evalPart e X.env) (fun u s'=>∃o H',Inv X pins σ H' s'∧IsPart u o∧Q o H') X.xe s
def zfq:TO:=fun _ H Q=>Q none H
def zhs (t:TE):TO:=fun σ H Q=>t σ H fun x H1=>∃i,x = .int i∧Q (some i) H1
section
variable {X:Cx} {e:Expr} {te:TE} {lo hi:Option Expr} {tl th:TO} {pos p2:Pos}
theorem ybX:PO X none zfq:=by
  intro pins s σ H Q I h
  rw [evalPart_none]
  exact wpAny_pure ⟨none,H,I,.none,h⟩
theorem zbY (h:PE X e te):PO X (some e) (zhs te):=by
  intro pins s σ H Q I hw
  rw [evalPart_some]
  refine thn (h pins s σ H _ I hw) fun u s1 ⟨x,H1,I1,r1,q1⟩=>?_
  obtain ⟨i,rfl,q⟩:=q1
  obtain ⟨t,rfl⟩:=r1
  exact ⟨some i,H1,I1,.int i t,q⟩
def SlR (X:Cx) (r:V→Option Int→Option Int→Hp→VK→Prop):Prop :=
  ∀(pins:List (Addr×Obj)) (s:Shared) (σ:St) (H:Hp) (x:V) (v vl vu:Value) (lo hi:Option Int) (sl:Addr) (Q:VK),Inv X pins σ H s→RelV x v→s.heap.IsSliceOf sl vl vu .none→IsPart vl lo→IsPart vu hi→r x lo hi H Q→
    ∃T id,typeLookup (.type T) "__getitem__"=pure (some (.builtin id))∧s.TypeIs v T∧wpAny (model X.prog X.w) X.A (getItem v (.ref sl)) (EP X pins σ Q) X.xe s
def tSl (r:V→Option Int→Option Int→Hp→VK→Prop) (te:TE) (tl th:TO):TE:=fun σ H Q=>te σ H fun x H1=>tl σ H1 fun l H2=>th σ H2 fun u H3=>r x l u H3 Q
theorem ybv {r:V→Option Int→Option Int→Hp→VK→Prop} (hr:SlR X r) (he:PE X e te) (hl:PO X lo tl) (hu:PO X hi th):PE X (.Subscript e (.Slice lo hi none p2) pos) (tSl r te tl th):=by
  intro pins s σ H Q I h
  refine Subscript_ (thn (he pins s σ H _ I h) fun v s1 ⟨x,H1,I1,r1,q1⟩=>?_)
  refine wpAny_Slice (thn (hl pins s1 σ H1 _ I1 q1) fun vl s2 ⟨l,H2,I2,pl,q2⟩=>thn (hu pins s2 σ H2 _ I2 q2) fun vu s3 ⟨u,H3,I3,pu,q3⟩=>?_)
  rw [evalPart_none]
  refine wpAny_pure ?_
  have I4:Inv X pins σ H3 { s3 with heap:=s3.heap.push { cls:=.type "slice",data:=.fields #[vl,vu,.none] } }:=I3.kept (t':=s3.toks) fun b ob q=>Heap.get?_push_of_some _ q
  obtain ⟨T,id,hT,ht,hg⟩:=hr pins { s3 with heap:=s3.heap.push { cls:=.type "slice",data:=.fields #[vl,vu,.none] } } σ H3 x v vl vu l u s3.heap.objs.size Q I4 r1 (Heap.IsSliceOf.new ..) pl pu q3
  show wpAny (model X.prog X.w) X.A (subscriptTail e (.Slice lo hi none p2) v (.ref s3.heap.objs.size)) (EP X pins σ Q) X.xe { s3 with heap:=s3.heap.push { cls:=.type "slice",data:=.fields #[vl,vu,.none] } }
  exact tail_any (ops:=[.ref s3.heap.objs.size,v]) ht hT hg (by with_unfolding_all rfl)
def cutV (xs:List V) (lo hi:Option Int):List V:=(xs.drop (HT.sIx xs.length 0 lo)).take (HT.sIx xs.length xs.length hi-HT.sIx xs.length 0 lo)
theorem zcT (xs:List V) (lo hi:Option Int):(cutV xs lo hi).length≤xs.length:=by
  unfold cutV
  rw [List.length_take,List.length_drop]
  omega
def rSlT (K:PySem.W.Frag):V→Option Int→Option Int→Hp→VK→Prop:=fun x lo hi H Q=>∃a xs,x = .ref a∧SqT K H a xs∧
  ¬ (HT.sIx xs.length 0 lo=0∧HT.sIx xs.length xs.length hi=xs.length)∧∀p,H p=none→Q (.ref p) (upd H p (.tup (cutV xs lo hi)))
theorem zgv:SlR X (rSlT X.K):=by
  intro pins s σ H x v vl vu lo hi sl Q I rx hs pl pu h
  obtain ⟨a,xs,rfl,hx,hw,q⟩:=h
  cases rx
  obtain ⟨its,r,ht,hz⟩:=I.tuple hx
  have hlen:its.toArray.size=xs.length:=by rw [List.size_toArray];exact r.length.symm
  refine ⟨"tuple",_,PyProof.Rows.slot_tuple_getitem.lookup,ht.typeIs,?_⟩
  refine HT.getItem_tuple_cut ht hs pl pu (by rw [hlen];exact hw) ?_ (by rw [hlen];exact hz)
  rw [hlen]
  refine ⟨.ref s.heap.objs.size,_,I.laid (t':=s.toks) (o:=.tup (cutV xs lo hi)) (fun b ob q=>Heap.get?_push_of_some _ q) (Nat.le_refl _) ?_,rfl,q _ (I.hok.fresh (Nat.le_refl _))⟩
  exact ⟨Nat.le_trans (zcT xs lo hi) hz,_,(r.drop (HT.sIx xs.length 0 lo)).take (HT.sIx xs.length xs.length hi-HT.sIx xs.length 0 lo),IsTup.new _ _⟩
def zhz (K:PySem.W.Frag):R2:=fun x y H Q=>∃a b xs ys,x = .ref a∧y = .ref b∧SqT K H a xs∧SqT K H b ys∧xs≠[]∧xs.length+ys.length≤sizeLine∧
  (ys=[]→Q (.ref a) H)∧(ys≠[]→∀p,H p=none→Q (.ref p) (upd H p (.tup (xs++ys))))
theorem Vals.nil_iff {xs:List V} {us:List Value} (r:Vals xs us):us=[]↔xs=[]:=by
  cases r with
  | nil=>simp
  | cons _ _=>simp
theorem ygG:OpR X (binaryOp .Add) (zhz X.K):=by
  intro pins s σ H x y v u Q I rx ry h
  obtain ⟨a,b,xs,ys,rfl,rfl,ha,hb,hx,hz,q1,q2⟩:=h
  cases rx
  cases ry
  obtain ⟨its,r1,p1,_⟩:=I.tuple ha
  obtain ⟨its2,r2,p2,_⟩:=I.tuple hb
  refine HT.cat_tup p1 p2 (fun z=>hx (r1.nil_iff.mp z)) (fun z=>⟨.ref a,H,I,rfl,q1 (r2.nil_iff.mp z)⟩) (fun z=>?_) (by rw [←r1.length,←r2.length];exact hz)
  refine ⟨.ref s.heap.objs.size,_,I.laid (t':=s.toks) (o:=.tup (xs++ys)) (fun b ob q=>Heap.get?_push_of_some _ q) (Nat.le_refl _) ?_,rfl,q2 (fun w=>z (r2.nil_iff.mpr w)) _ (I.hok.fresh (Nat.le_refl _))⟩
  exact ⟨by rw [List.length_append];exact hz,_,r1.append r2,IsTup.new _ _⟩
end
end L2
namespace L2
open PySem PySem.Spec PyProof.Rows
def ixN (n:Nat) (i:Int):Option Nat:=if 0≤i then (if i<n then some i.toNat else none) else if -(n:Int)≤i then some (i+n).toNat else none
def atI {α:Type} (xs:List α) (i:Int):Option α:=(ixN xs.length i).bind fun j=>xs[j]?
theorem ycS {n:Nat} {i:Int} {j:Nat} (h:ixN n i=some j):seqIndex? i n=some j∧j<n∧-(n:Int)≤i∧i<n:=by
  unfold ixN at h
  by_cases h0:0≤i
  · rw [if_pos h0] at h
    by_cases h1:i<n
    · rw [if_pos h1] at h
      have e:i.toNat=j:=Option.some.inj h
      exact ⟨by rw [seqIndex_of h0 h1,e],by omega,by omega,h1⟩
    · rw [if_neg h1] at h;cases h
  · rw [if_neg h0] at h
    by_cases h1 : -(n:Int)≤i
    · rw [if_pos h1] at h
      have e:(i+n).toNat=j:=Option.some.inj h
      exact ⟨by rw [seqIndex_neg (by omega) h1,e],by omega,h1,by omega⟩
    · rw [if_neg h1] at h;cases h
theorem ye6 {α:Type} {xs:List α} {i:Int} {v:α} (h:atI xs i=some v):∃j,seqIndex? i xs.length=some j∧xs[j]?=some v∧j<xs.length∧-(xs.length:Int)≤i∧i<xs.length:=by
  unfold atI at h
  cases e:ixN xs.length i with
  | none=>rw [e] at h;cases h
  | some j =>
    rw [e] at h
    obtain ⟨h1,h2,h3,h4⟩:=ycS e
    exact ⟨j,h1,h,h2,h3,h4⟩
theorem yaw {α:Type} {xs:List α} {j:Nat} {v:α} (h:xs[j]?=some v):atI xs (j:Int)=some v:=by
  have hj:j<xs.length:=(List.getElem?_eq_some_iff.mp h).1
  have e:ixN xs.length (j:Int)=some j:=by
    unfold ixN
    rw [if_pos (by omega),if_pos (by omega)];simp
  unfold atI;rw [e];exact h
def zgS (b:Expr):Prop:=∀o i,subscripted b false o i=operate [o,i] (getItem o i)
def IxR (X:Cx) (r:R2):Prop :=
  ∀(value slice:Expr) (pins:List (Addr×Obj)) (s:Shared) (σ:St) (H:Hp) (x y:V) (v u:Value) (Q:VK),Inv X pins σ H s→RelV x v→RelV y u→r x y H Q→
    subscripted slice false v u=operate [v,u] (getItem v u)→wpAny (model X.prog X.w) X.A (subscriptTail value slice v u) (EP X pins σ Q) X.xe s
def MtR (X:Cx) (id:String) (r:V→List V→Hp→VK→Prop):Prop :=
  ∀(pins:List (Addr×Obj)) (s:Shared) (σ:St) (H:Hp) (x:V) (xs:List V) (v:Value) (us:List Value) (Q:VK),Inv X pins σ H s→RelV x v→Vals xs us→r x xs H Q→
    wpAny (model X.prog X.w) X.A (call (.builtin id) (v::us)) (EP X pins σ Q) X.xe s
section
variable {X:Cx} {a b:Expr} {ta tb:TE} {pos:Pos}
theorem zan {r:R2} (hr:IxR X r) (ha:PE X a ta) (hb:PE X b tb) (hs:zgS b):PE X (.Subscript a b pos) (tOp r ta tb):=by
  intro pins s σ H Q I h
  exact Subscript_ (binT ha hb I h fun v u s2 x y H2 I2 rx ry q=>hr a b pins s2 σ H2 x y v u Q I2 rx ry q (hs _ _))
def rIxL (K:PySem.W.Frag):R2:=fun x y H Q=>∃p xs i v,x = .ref p∧y = .int i∧SqL K H p xs∧atI xs i=some v∧Q v H
def rIxT (K:PySem.W.Frag):R2:=fun x y H Q=>∃p xs i v,x = .ref p∧y = .int i∧SqT K H p xs∧atI xs i=some v∧Q v H
theorem zaq:IxR X (rIxL X.K):=by
  intro value slice pins s σ H x y v u Q I rx ry h hs
  obtain ⟨p,xs,i,z,rfl,rfl,hq,he,q⟩:=h
  cases rx
  obtain ⟨t,rfl⟩:=ry
  obtain ⟨its,r,pl,hz⟩:=I.list hq
  obtain ⟨j,h1,h2,h3,h4,h5⟩:=ye6 he
  obtain ⟨w,ew,rw'⟩:=r.get h2
  have hl:=r.length
  have hn:=zcN
  have fin:EP X pins σ Q w s:=⟨z,H,I,rw',q⟩
  by_cases h0:0≤i
  · have hj:i.toNat=j:=by
      rw [seqIndex_of h0 h5] at h1
      exact Option.some.inj h1
    exact item_listR pl.isList h0 (by omega) (by rw [hj];simpa using ew) fin hs
  · have hj:(i+(its.toArray.size:Int)).toNat=j:=by
      rw [seqIndex_neg (by omega) h4] at h1
      rw [List.size_toArray,←hl]
      exact Option.some.inj h1
    exact subscriptTail_builtinR (x:=w) pl.isList.typeIs slot_list_getitem.lookup
      (wpAny_getItem_list_neg (Q:=fun r s'=>r=w∧EP X pins σ Q r s') pl.isList (by omega) (by rw [List.size_toArray] <;> omega) (by omega) (by rw [hj];simpa using ew) ⟨rfl,fin⟩) hs
theorem yas:IxR X (rIxT X.K):=by
  intro value slice pins s σ H x y v u Q I rx ry h hs
  obtain ⟨p,xs,i,z,rfl,rfl,hq,he,q⟩:=h
  cases rx
  obtain ⟨t,rfl⟩:=ry
  obtain ⟨its,r,pl,hz⟩:=I.tuple hq
  obtain ⟨j,h1,h2,h3,h4,h5⟩:=ye6 he
  obtain ⟨w,ew,rw'⟩:=r.get h2
  have hl:=r.length
  have hn:=zcN
  have fin:EP X pins σ Q w s:=⟨z,H,I,rw',q⟩
  exact subscriptTail_builtinR (x:=w) pl.typeIs slot_tuple_getitem.lookup
    (getItem_tuple (j:=j) (Q:=fun r s'=>r=w∧EP X pins σ Q r s') pl (by omega) (by omega) (by rw [List.size_toArray,←hl];exact h1) (by simpa using ew) ⟨rfl,fin⟩) hs
theorem zeO (its:List Value) (n j:Nat) (u:Value):Obj.mapSeq (·.setIfInBounds j u) { cls:=.type "list",data:=.seq its.toArray n }={ cls:=.type "list",data:=.seq (its.set j u).toArray n }:=by
  simp [Obj.mapSeq]
theorem Inv.lst {pins:List (Addr×Obj)} {σ:St} {H:Hp} {s:Shared} {p:Addr} {xs:List V} (I:Inv X pins σ H s) (h:H p=some (.lst xs)) :
    ∃(its:List Value) (n:Nat),Vals xs its∧s.heap.get? p=some { cls:=.type "list",data:=.seq its.toArray n }∧xs.length≤sizeLine:=by
  obtain ⟨z,its,n,r,e⟩:=I.hok p _ h
  exact ⟨its,n,r,e,z⟩
theorem Inv.lstUpd {pins:List (Addr×Obj)} {σ:St} {H:Hp} {s:Shared} {p:Addr} {xs ys:List V} {its its':List Value} {n n':Nat} {f:Obj→Obj} (I:Inv X pins σ H s) (h:H p=some (.lst xs))
    (ho:s.heap.get? p=some { cls:=.type "list",data:=.seq its.toArray n }) (hf:f { cls:=.type "list",data:=.seq its.toArray n }={ cls:=.type "list",data:=.seq its'.toArray n' }) (r:Vals ys its') (hz:ys.length≤sizeLine) (t:Nat) :
    Inv X pins σ (upd H p (.lst ys)) { s with heap:=s.heap.update p f,toks:=t }:=by
  have e:(s.heap.update p f).get? p=some { cls:=.type "list",data:=.seq its'.toArray n' }:=by
    rw [Heap.get?_update_self f ho (by rw [hf] <;> rfl),hf]
  refine I.write (x:=p) (e:=p) (by rw [h];trivial) (.inl rfl) (fun b u hb q=>(Heap.get?_update_other _ _ (Ne.symm hb)).trans q) ⟨_,e⟩ ?_
  exact ⟨hz,its',n',r,e⟩
def yhq:V→V→V→Hp→(Hp→Prop)→Prop:=fun o i v H Q=>∃p xs k j,o = .ref p∧i = .int k∧H p=some (.lst xs)∧ixN xs.length k=some j∧Q (upd H p (.lst (xs.set j v)))
theorem ybM:PSet X yhq:=by
  intro pins s σ H o i v ov iv u Q I ro ri rv h
  obtain ⟨p,xs,k,j,rfl,rfl,hp,hj,q⟩:=h
  cases ro
  obtain ⟨t,rfl⟩:=ri
  obtain ⟨its,n,r,ho,hz⟩:=I.lst hp
  obtain ⟨h1,h2,h3,h4⟩:=ycS hj
  have hl:=r.length
  have hn:=zcN
  have I':Inv X pins σ (upd H p (.lst (xs.set j v))) { s with heap:=s.heap.update p (Obj.mapSeq (·.setIfInBounds j u)) } :=
    I.lstUpd hp ho (zeO its n j u) (r.set rv j) (by rw [List.length_set];exact hz) s.toks
  by_cases h0:0≤k
  · have hk:k.toNat=j:=by
      rw [seqIndex_of h0 h4] at h1
      exact Option.some.inj h1
    exact PySem.W.ki_setAt ho h0 (by omega) (by rw [List.size_toArray,←hl];exact h4) (by rw [hk];exact ⟨_,I',q⟩)
  · have hk:(k+(its.toArray.size:Int)).toNat=j:=by
      rw [seqIndex_neg (by omega) h3] at h1
      rw [List.size_toArray,←hl]
      exact Option.some.inj h1
    exact PySem.W.ki_setBack ho (by omega) (by rw [List.size_toArray,←hl];exact h3) (by omega) (by rw [hk];exact ⟨_,I',q⟩)
theorem zdG (lo hi:Option Int) (n:Nat):(sliceBounds lo hi none n).1=((HT.sIx n 0 lo:Nat):Int)∧(sliceBounds lo hi none n).2.1=((HT.sIx n n hi:Nat):Int)∧(sliceBounds lo hi none n).2.2=1:=by
  refine ⟨?_,?_,rfl⟩
  · cases lo with
    | none=>simp [sliceBounds,HT.sIx]
    | some i =>
      simp only [sliceBounds,HT.sIx,Option.getD_none,show (1:Int)>0 by decide,if_true]
      by_cases h:i<0
      · simp only [h,if_true] <;> omega
      · simp only [h,if_false] <;> omega
  · cases hi with
    | none=>simp [sliceBounds,HT.sIx]
    | some i =>
      simp only [sliceBounds,HT.sIx,Option.getD_none,show (1:Int)>0 by decide,if_true]
      by_cases h:i<0
      · simp only [h,if_true] <;> omega
      · simp only [h,if_false] <;> omega
theorem ydv (its:List Value) (lo hi:Option Int):slicePick its.toArray lo hi none=((its.drop (HT.sIx its.length 0 lo)).take (HT.sIx its.length its.length hi-HT.sIx its.length 0 lo)).toArray:=by
  obtain ⟨h1,h2,h3⟩:=zdG lo hi its.toArray.size
  unfold slicePick
  rw [h1,h2,h3]
  simp only [sliceRange_one,pick_run,List.size_toArray] <;> rfl
def rSlL (K:PySem.W.Frag):V→Option Int→Option Int→Hp→VK→Prop:=fun x lo hi H Q=>∃a xs,x = .ref a∧SqL K H a xs∧∀p,H p=none→Q (.ref p) (upd H p (.lst (cutV xs lo hi)))
theorem ye0:SlR X (rSlL X.K):=by
  intro pins s σ H x v vl vu lo hi sl Q I rx hs pl pu h
  obtain ⟨a,xs,rfl,hx,q⟩:=h
  cases rx
  obtain ⟨its,r,ht,hz⟩:=I.list hx
  have hlen:=r.length
  refine ⟨"list",_,slot_list_getitem.lookup,ht.isList.typeIs,?_⟩
  refine wpAny_getItem_list_slice ht.isList hs pl pu .none (by simp) ?_ (by rw [List.size_toArray] <;> omega)
  rw [ydv,←hlen]
  refine ⟨.ref s.heap.objs.size,_,I.laid (t':=s.toks) (o:=.lst (cutV xs lo hi)) (fun b ob q=>Heap.get?_push_of_some _ q) (Nat.le_refl _) ?_,rfl,q _ (I.hok.fresh (Nat.le_refl _))⟩
  exact ⟨Nat.le_trans (zcT xs lo hi) hz,_,0,(r.drop (HT.sIx xs.length 0 lo)).take (HT.sIx xs.length xs.length hi-HT.sIx xs.length 0 lo),Heap.get?_push_size _ rfl⟩
def ydg:V→Bool
  | .non=>true
  | .bl _=>true
  | .int _=>true
  | .str _=>true
  | _=>false
def eqV:V→V→Bool
  | .non,.non=>true
  | .bl a,.bl b=>a==b
  | .bl a,.int b=>(if a then 1 else 0)==b
  | .int a,.bl b=>a==(if b then 1 else 0)
  | .int a,.int b=>a==b
  | .str a,.str b=>a==b
  | _,_=>false
theorem yg6 {A:Around} {s:Shared} {y x:V} {u v:Value} (ry:RelV y u) (rx:RelV x v) (fy:ydg y=true) (fx:ydg x=true):SeqAt.EqAt A s u v (eqV y x):=by
  cases y with
  | non =>
    cases ry
    cases x with
    | non=>cases rx;exact SeqAt.EqAt.same _
    | bl b=>cases rx;exact SeqAt.EqAt.none_bool b
    | int b=>obtain ⟨t,rfl⟩:=rx;exact SeqAt.EqAt.none_int b t
    | str b=>obtain ⟨t,rfl⟩:=rx;exact SeqAt.EqAt.none_str b t
    | _=>exact absurd (show false=true from fx) Bool.false_ne_true
  | bl a =>
    cases ry
    cases x with
    | non=>cases rx;exact SeqAt.EqAt.bool_none a
    | bl b=>cases rx;exact SeqAt.EqAt.bool_bool a b
    | int b=>obtain ⟨t,rfl⟩:=rx;exact SeqAt.EqAt.bool_int a b t
    | str b=>obtain ⟨t,rfl⟩:=rx;exact SeqAt.EqAt.bool_str a b t
    | _=>exact absurd (show false=true from fx) Bool.false_ne_true
  | int a =>
    obtain ⟨t',rfl⟩:=ry
    cases x with
    | non=>cases rx;exact SeqAt.EqAt.int_none a t'
    | bl b=>cases rx;exact SeqAt.EqAt.int_bool a t' b
    | int b=>obtain ⟨t,rfl⟩:=rx;exact SeqAt.EqAt.int_int a t' b t
    | str b=>obtain ⟨t,rfl⟩:=rx;exact SeqAt.EqAt.int_str a t' b t
    | _=>exact absurd (show false=true from fx) Bool.false_ne_true
  | str a =>
    obtain ⟨t',rfl⟩:=ry
    cases x with
    | non=>cases rx;exact SeqAt.EqAt.str_none a t'
    | bl b=>cases rx;exact SeqAt.EqAt.str_bool a t' b
    | int b=>obtain ⟨t,rfl⟩:=rx;exact SeqAt.EqAt.str_int a t' b t
    | str b=>obtain ⟨t,rfl⟩:=rx;exact SeqAt.EqAt.str_str a t' b t
    | _=>exact absurd (show false=true from fx) Bool.false_ne_true
  | _=>exact absurd (show false=true from fy) Bool.false_ne_true
def eqU (x:V) (u:Value):Bool:=match u with
  | .none=>eqV .non x
  | .bool b=>eqV (.bl b) x
  | .int i _=>eqV (.int i) x
  | .str z _=>eqV (.str z) x
  | _=>false
theorem ygu {x y:V} {u:Value} (r:RelV y u) (f:ydg y=true):eqU x u=eqV y x:=by
  cases y with
  | non=>cases r;rfl
  | bl b=>cases r;rfl
  | int i=>obtain ⟨t,rfl⟩:=r;rfl
  | str z=>obtain ⟨t,rfl⟩:=r;rfl
  | _=>exact absurd (show false=true from f) Bool.false_ne_true
theorem ycD {x:V}:∀ {xs:List V} {us:List Value},Vals xs us→xs.all ydg=true→us.any (eqU x)=xs.any fun y=>eqV y x
  | _,_,.nil,_=>rfl
  | y::xs,u::us,.cons r t,f=>by
    rw [List.all_cons,Bool.and_eq_true] at f
    rw [List.any_cons,List.any_cons,ygu r f.1,ycD t f.2]
theorem zce {A:Around} {s:Shared} {x:V} {v:Value} (rx:RelV x v) (fx:ydg x=true):∀ {xs:List V} {us:List Value},Vals xs us→xs.all ydg=true→∀u∈us,SeqAt.EqAt A s u v (eqU x u)
  | _,_,.nil,_=>fun u hu=>by cases hu
  | y::xs,u::us,.cons r t,f=>fun u' hu=>by
    rw [List.all_cons,Bool.and_eq_true] at f
    rcases List.mem_cons.mp hu with rfl|hu
    · rw [ygu r f.1];exact yg6 r rx f.1 fx
    · exact zce rx fx t f.2 u' hu
def inV (x:V) (xs:List V):Bool:=xs.any fun y=>eqV y x
def rIn (K:PySem.W.Frag) (neg:Bool):R2:=fun x y H Q=>∃p xs,y = .ref p∧(SqL K H p xs∨SqT K H p xs)∧ydg x=true∧xs.all ydg=true∧Q (.bl (if neg then !inV x xs else inV x xs)) H
theorem yfh:OpR X (compareOp .In) (rIn X.K false):=by
  intro pins s σ H x y v u Q I rx ry h
  obtain ⟨p,xs,rfl,hq,fx,fs,q⟩:=h
  cases ry
  rcases hq with hq|hq
  · obtain ⟨its,r,pl,hz⟩:=I.list hq
    refine SeqAt.in_listAt (eqU x) pl.isList (fun w hw=>zce rx fx r fs w (by simpa using hw)) ⟨.bl _,H,I,rfl,?_⟩
    rw [show its.toArray.any (eqU x)=its.any (eqU x) by simp,ycD r fs]
    exact q
  · obtain ⟨its,r,pl,hz⟩:=I.tuple hq
    refine SeqAt.in_tupleAt (eqU x) pl (fun w hw=>zce rx fx r fs w (by simpa using hw)) ⟨.bl _,H,I,rfl,?_⟩
    rw [show its.toArray.any (eqU x)=its.any (eqU x) by simp,ycD r fs]
    exact q
theorem ydy:OpR X (compareOp .NotIn) (rIn X.K true):=by
  intro pins s σ H x y v u Q I rx ry h
  obtain ⟨p,xs,rfl,hq,fx,fs,q⟩:=h
  cases ry
  rcases hq with hq|hq
  · obtain ⟨its,r,pl,hz⟩:=I.list hq
    refine SeqAt.notIn_listAt (eqU x) pl.isList (fun w hw=>zce rx fx r fs w (by simpa using hw)) ⟨.bl _,H,I,rfl,?_⟩
    rw [show its.toArray.any (eqU x)=its.any (eqU x) by simp,ycD r fs]
    exact q
  · obtain ⟨its,r,pl,hz⟩:=I.tuple hq
    refine SeqAt.notIn_tupleAt (eqU x) pl (fun w hw=>zce rx fx r fs w (by simpa using hw)) ⟨.bl _,H,I,rfl,?_⟩
    rw [show its.toArray.any (eqU x)=its.any (eqU x) by simp,ycD r fs]
    exact q
theorem yah:zbk X (.builtin "len") (fun xs H Q=>∃p ys,xs=[.ref p]∧(SqL X.K H p ys∨SqT X.K H p ys)∧Q (.int ys.length) H):=by
  intro pins s σ H xs us Q I r h
  obtain ⟨p,ys,rfl,hq,q⟩:=h
  obtain ⟨u,rfl,rx⟩:=zcg r
  cases rx
  have hn:=zcN
  rcases hq with hq|hq
  · obtain ⟨its,r',pl,hz⟩:=I.list hq
    have hlen:=r'.length
    exact Calls.call_len_list pl.isList (by simp only [List.size_toArray] <;> omega) ⟨.int ys.length,H,I.tok _,⟨s.toks+1,by rw [List.size_toArray,hlen]⟩,q⟩
  · obtain ⟨its,r',pl,hz⟩:=I.tuple hq
    have hlen:=r'.length
    exact len_tuple pl (by simp only [List.size_toArray] <;> omega) ⟨.int ys.length,H,I.tok _,⟨s.toks+1,by rw [List.size_toArray,hlen]⟩,q⟩
theorem ybs:zbk X (.type "list") (fun xs H Q=>∃p ys,xs=[.ref p]∧(SqL X.K H p ys∨SqT X.K H p ys)∧∀l,H l=none→Q (.ref l) (upd H l (.lst ys))):=by
  intro pins s σ H xs us Q I r h
  obtain ⟨p,ys,rfl,hq,q⟩:=h
  obtain ⟨u,rfl,rx⟩:=zcg r
  cases rx
  have fin:∀(its:List Value),Vals ys its→ys.length≤sizeLine→∀(h':Heap) (c':Nat),(∀b o',s.heap.get? b=some o'→h'.get? b=some o')→
      h'.get? s.heap.objs.size=some { cls:=.type "list",dict:=none,data:=.seq its.toArray c',slots:=#[] }→EP X pins σ Q (.ref s.heap.objs.size) { s with heap:=h' }:=fun its r' hz h' c' kp e =>
    ⟨.ref s.heap.objs.size,_,I.laid (t':=s.toks) kp (Nat.le_refl _) (show ybr X.prog X.w _ h' _ (.lst ys) from ⟨hz,its,c',r',e⟩),rfl,q _ (I.hok.fresh (Nat.le_refl _))⟩
  rcases hq with hq|hq
  · obtain ⟨its,r',pl,hz⟩:=I.list hq
    have hlen:=r'.length
    obtain ⟨o,ho,hc,n,hd⟩:=pl.isList
    exact call_list_seq p (.inl rfl) ho hc hd (fun h' c' kp e=>fin its r' hz h' c' kp e) (by simp only [List.size_toArray] <;> omega)
  · obtain ⟨its,r',pl,hz⟩:=I.tuple hq
    have hlen:=r'.length
    obtain ⟨o,ho,hc,n,hd⟩:=pl
    exact call_list_seq p (.inr rfl) ho hc hd (fun h' c' kp e=>fin its r' hz h' c' kp e) (by simp only [List.size_toArray] <;> omega)
theorem zaI:zbk X (.type "tuple") (fun xs H Q=>∃p ys,xs=[.ref p]∧((SqL X.K H p ys∧∀l,H l=none→Q (.ref l) (upd H l (.tup ys)))∨(SqT X.K H p ys∧Q (.ref p) H))):=by
  intro pins s σ H xs us Q I r h
  obtain ⟨p,ys,rfl,h⟩:=h
  obtain ⟨u,rfl,rx⟩:=zcg r
  cases rx
  rcases h with ⟨hq,q⟩ | ⟨hq,q⟩
  · obtain ⟨its,r',pl,hz⟩:=I.list hq
    have hlen:=r'.length
    refine call_tuple_list pl.isList (fun h' kp=>?_) (by simp only [List.size_toArray] <;> omega)
    have I1:Inv X pins σ H { s with heap:=h' }:=I.kept (t':=s.toks) kp
    have I2:Inv X pins σ (upd H h'.objs.size (.tup ys)) { s with heap:=h'.push { cls:=.type "tuple",data:=.seq its.toArray } } :=
      I1.laid (t':=s.toks) (fun b o e=>Heap.get?_push_of_some _ e) (Nat.le_refl _) (show ybr X.prog X.w _ _ _ (.tup ys) from ⟨hz,its,r',IsTup.new _ _⟩)
    exact ⟨.ref h'.objs.size,_,I2,rfl,q _ (I1.hok.fresh (Nat.le_refl _))⟩
  · obtain ⟨its,r',pl,hz⟩:=I.tuple hq
    exact call_tuple_same pl ⟨.ref p,H,I,rfl,q⟩
def tyV (K:PySem.W.Frag) (T:String) (x:V) (H:Hp):Prop:=match x with
  | .str _=>T = "str"
  | .int _=>T = "int"
  | .ref p=>(T = "list"∧∃xs,SqL K H p xs)∨(T = "tuple"∧∃o,K.lookup p=some o∧o.cls = .type "tuple"∧o.dict=none)∨
      (T = "dict"∧((∃kvs,H p=some (.dK kvs))∨∃kvs,H p=some (.dT kvs)))∨(T = "set"∧∃S n,H p=some (.set S n))
  | _=>False
theorem zha {pins:List (Addr×Obj)} {σ:St} {H:Hp} {s:Shared} {T:String} {x:V} {v:Value} (I:Inv X pins σ H s) (r:RelV x v) (ty:tyV X.K T x H) :
    s.TypeIs v T∧∀a,v = .ref a→∃ob,s.heap.get? a=some ob∧ob.dict=none:=by
  cases x with
  | str z =>
    obtain ⟨t,rfl⟩:=r
    cases (show T = "str" from ty)
    exact ⟨typeIs_str s z t,fun _ e=>nomatch e⟩
  | int i =>
    obtain ⟨t,rfl⟩:=r
    cases (show T = "int" from ty)
    exact ⟨typeIs_int s i t,fun _ e=>nomatch e⟩
  | ref p =>
    cases r
    rcases ty with ⟨rfl,xs,hq⟩ | ⟨rfl,o,hk,hc,hd⟩ | ⟨rfl,hk⟩ | ⟨rfl,S,n,hk⟩
    · obtain ⟨its,_,pl,_⟩:=I.list hq
      refine ⟨pl.isList.typeIs,fun a e=>?_⟩
      cases e
      obtain ⟨o,n,e,c,hd,_⟩:=pl
      exact ⟨o,e,hd⟩
    · refine ⟨⟨o,I.kIn p o hk,hc⟩,fun a e=>?_⟩
      cases e
      exact ⟨o,I.kIn _ o hk,hd⟩
    · have z:∃o,s.heap.get? p=some o∧o.ExactDict:=by
        rcases hk with ⟨kvs,hk⟩ | ⟨kvs,hk⟩
        · obtain ⟨_,_,_,_,o,_,_,e,ex,_⟩:=I.hok p _ hk
          exact ⟨o,e,ex⟩
        · obtain ⟨_,_,_,_,o,_,_,e,ex,_⟩:=I.hok p _ hk
          exact ⟨o,e,ex⟩
      obtain ⟨o,e,ex⟩:=z
      refine ⟨⟨o,e,ex.1⟩,fun a e2=>?_⟩
      cases e2
      exact ⟨o,e,ex.2.1⟩
    · obtain ⟨o,_,_,_,e,ex,_⟩:=I.hok p _ hk
      refine ⟨⟨o,e,ex.1⟩,fun a e2=>?_⟩
      cases e2
      exact ⟨o,e,ex.2.1⟩
  | _=>exact False.elim ty
def tBM (K:PySem.W.Frag) (T:String) (r:V→List V→Hp→VK→Prop) (to:TE) (t:TA):TE:=fun σ H Q=>to σ H fun x H1=>tyV K T x H1∧t σ H1 fun xs H2=>r x xs H2 Q
variable {o e:Expr} {es:List Expr} {to:TE} {t:TA} {name:Str} {apos cpos:Pos} {T id:String} {r:V→List V→Hp→VK→Prop}
theorem zcG (pa:PlainAttrs T) (slot:Slot T name id) (hty:typeOf (.builtin id)=pure (.type "method_descriptor")) (hm:MtR X id r) (ho:PE X o to) (ha:PA X (e::es) t)
    (hbase:attributeBase o name X.env (eval o X.env)=eval o X.env:=by rfl)
    (hfew:((backTo cpos (starEach (e::es) X.env)).all (fun x=>!x.1)&&(backToKw cpos (keywordEach [] X.env)).all (fun x=>x.1.isSome)
      && decide ((e::es).length+([]:List Keyword).length+(if ([]:List Keyword).isEmpty then 0 else 1)<30))=true:=by rfl)
    (hline:(apos.endLine==cpos.line)=true:=by rfl) (hs:starEach (e::es) X.env=(false,eval e X.env)::starEach es X.env:=by rfl) (hplain:(backTo cpos (starEach es X.env)).any (·.1)=false:=by rfl) :
    PE X (.Call (.Attribute o name apos) (e::es) [] cpos) (tBM X.K T r to t):=by
  intro pins s σ H Q I h
  refine wpAny_Call_method_late hbase hfew hline rfl (thn (ho pins s σ H _ I h) fun v s1 ⟨x,H1,I1,r1,ty,q1⟩=>?_)
  obtain ⟨h1,h2⟩:=zha I1 r1 ty
  refine ⟨T,id,pa,slot,hty,h1,h2,?_⟩
  have hA:=ha cpos pins s1 σ H1 _ I1 q1
  rw [hs] at hA ⊢
  refine Calls.callWith_builtin (by show (false||(backTo cpos (starEach es X.env)).any (·.1))=false;rw [hplain] <;> rfl) (Calls.evalArgs_plain ?_)
  exact thn hA fun us s2 ⟨vs,H2,I2,r2,q2⟩=>hm pins s2 σ H2 x vs v us Q I2 r1 r2 q2
end
end L2
namespace L2
open PySem PySem.Spec PyProof.Rows
def MtM (X:Cx) (id:String) (r:V→List V→Hp→VK→Prop):Prop :=
  ∀(pins:List (Addr×Obj)) (s:Shared) (σ:St) (H:Hp) (x:V) (xs:List V) (v:Value) (us:List Value) (Q:VK),Inv X pins σ H s→RelV x v→Vals xs us→r x xs H Q→
    wpAny (model X.prog X.w) X.A (call (.builtin id) (v::us)) (EP X pins σ Q) X.xe s
theorem Vals.one:∀ {x:V} {us:List Value},Vals [x] us→∃u,us=[u]∧RelV x u
  | _,_,.cons r .nil=>⟨_,rfl,r⟩
theorem Vals.eraseIdx:∀ {xs:List V} {us:List Value} (i:Nat),Vals xs us→Vals (xs.eraseIdx i) (us.eraseIdx i)
  | _,_,_,.nil=>.nil
  | _,_,0,.cons _ t=>t
  | _,_,i+1,.cons r t=>.cons r (Vals.eraseIdx i t)
theorem Vals.reverse {xs:List V} {us:List Value} (h:Vals xs us):Vals xs.reverse us.reverse:=by
  induction h with
  | nil=>exact .nil
  | cons r t ih=>rw [List.reverse_cons,List.reverse_cons];exact Vals.append ih (.cons r .nil)
theorem Vals.rep {xs:List V} {us:List Value} (h:Vals xs us):∀k:Nat,Vals (List.replicate k xs).flatten (List.replicate k us).flatten
  | 0=>.nil
  | k+1=>by
    rw [List.replicate_succ,List.replicate_succ,List.flatten_cons,List.flatten_cons]
    exact Vals.append h (Vals.rep h k)
theorem ydV {α:Type}:∀(l:List α) (i:Nat),(l.eraseIdx i).length≤l.length
  | [],_=>Nat.le_refl _
  | _::_,0=>Nat.le_succ _
  | _::r,i+1=>Nat.succ_le_succ (ydV r i)
theorem ydL (its:List Value):∀(k:Nat) (acc:List Value),
    List.foldl (fun x1 x2=>x1++x2) acc.toArray (List.replicate k its.toArray)=(acc++(List.replicate k its).flatten).toArray
  | 0,acc=>by simp
  | k+1,acc=>by
    have e:acc.toArray++its.toArray=(acc++its).toArray:=by simp
    have e2:(acc++its)++(List.replicate k its).flatten=acc++(List.replicate (k+1) its).flatten:=by
      rw [List.replicate_succ,List.flatten_cons,List.append_assoc]
    rw [←e2,←ydL its k (acc++its),←e,List.replicate_succ,List.foldl_cons]
section
variable {X:Cx} {pins:List (Addr×Obj)} {σ:St} {H:Hp} {s:Shared} {l b:Addr} {xs ys zs:List V}
theorem Inv.lset {its its':List Value} {n:Nat} {f:Array Value→Array Value} {t':Nat} (I:Inv X pins σ H s) (hH:H l=some (.lst xs))
    (e:s.heap.get? l=some { cls:=.type "list",data:=.seq its.toArray n }) (hf:f its.toArray=its'.toArray) (hv:Vals ys its') (hz:ys.length≤sizeLine) :
    Inv X pins σ (upd H l (.lst ys)) { s with heap:=s.heap.update l (Obj.mapSeq f),toks:=t' }:=by
  have q:=PySem.IsL.update e f
  rw [hf] at q
  refine I.write (x:=l) (e:=l) (by rw [hH];exact trivial) (.inl rfl) (fun b' u hb hu=>(Heap.get?_update_other s.heap (Obj.mapSeq f) (Ne.symm hb)).trans hu) ⟨_,q⟩ ?_
  exact ⟨hz,its',_,hv,q⟩
theorem Inv.lnew {its:List Value} {t':Nat} (I:Inv X pins σ H s) (hv:Vals ys its) (hz:ys.length≤sizeLine) :
    Inv X pins σ (upd H s.heap.objs.size (.lst ys)) { s with heap:=s.heap.push { cls:=.type "list",data:=.seq its.toArray },toks:=t' } :=
  I.laid (fun _ _ q=>Heap.get?_push_of_some _ q) (Nat.le_refl _) ⟨hz,its,0,hv,Heap.get?_push_size _ rfl⟩
theorem Inv.fresh (I:Inv X pins σ H s):H s.heap.objs.size=none:=I.hok.fresh (Nat.le_refl _)
theorem Inv.lstM (I:Inv X pins σ H s) (hH:H l=some (.lst xs)):xs.length≤sizeLine∧∃(its:List Value) (n:Nat),Vals xs its∧xs.length=its.length∧s.heap.get? l=some { cls:=.type "list",data:=.seq its.toArray n }:=by
  obtain ⟨z,its,n,r,e⟩:=I.hok l _ hH
  exact ⟨z,its,n,r,r.length,e⟩
theorem yeA {n:Nat} (h:n≤sizeLine):Builtin.List.listTooLong n=false:=by
  unfold Builtin.List.listTooLong
  exact decide_eq_false (by omega)
end
section
variable {X:Cx}
def ygI:V→List V→Hp→VK→Prop:=fun x vs H Q=>∃l xs y,x = .ref l∧vs=[y]∧H l=some (.lst xs)∧xs.length<sizeLine∧Q .non (upd H l (.lst (xs++[y])))
theorem ybp:MtM X "list.append" ygI:=by
  intro pins s σ H x vs v us Q I rx rv h
  obtain ⟨l,xs,y,rfl,rfl,hH,hz,q⟩:=h
  cases rx
  obtain ⟨u,rfl,ru⟩:=rv.one
  obtain ⟨z,its,n,r,hl,e⟩:=I.lstM hH
  refine call_meets F.slot_list_append ⟨_,e,rfl⟩ F.entry_list_append (F.args_list_append_2 _ _) (PySem.list_append l its.toArray n u (by rw [List.size_toArray];omega)) ⟨e,?_⟩
  refine ⟨.non,_,I.lset (its':=its++[u]) hH e (by simp) (r.append (.cons ru .nil)) ?_,rfl,q⟩
  rw [List.length_append,List.length_singleton]
  omega
def ygJ:V→List V→Hp→VK→Prop:=fun x vs H Q=>∃l b xs zs,x = .ref l∧vs=[.ref b]∧H l=some (.lst xs)∧H b=some (.lst zs)∧xs.length+zs.length≤sizeLine∧Q .non (upd H l (.lst (xs++zs)))
theorem zhd:MtM X "list.extend" ygJ:=by
  intro pins s σ H x vs v us Q I rx rv h
  obtain ⟨l,b,xs,zs,rfl,rfl,hH,hB,hz,q⟩:=h
  cases rx
  obtain ⟨u,rfl,ru⟩:=rv.one
  cases ru
  obtain ⟨z,its,n,r,hl,e⟩:=I.lstM hH
  obtain ⟨z2,its2,n2,r2,hl2,e2⟩:=I.lstM hB
  have hsz:its.toArray.size+its2.toArray.size≤sizeLine:=by rw [List.size_toArray,List.size_toArray];omega
  have hlong:¬ (!its.toArray.isEmpty&&Builtin.List.listTooLong (its.toArray.size+its2.toArray.size))=true:=by
    rw [yeA hsz,Bool.and_false]
    exact Bool.false_ne_true
  refine call_meets F.slot_list_extend ⟨_,e,rfl⟩ F.entry_list_extend (F.args_list_extend_2 _ _)
    (AutoSeq1.list_extend_list_list_0 l its.toArray n b its2.toArray n2 hlong (by rw [List.size_toArray];omega) (by omega)) ⟨e,e2,?_⟩
  refine ⟨.non,_,I.lset (its':=its++its2) hH e (by simp) (r.append r2) ?_,rfl,q⟩
  rw [List.length_append]
  omega
def yg8:V→List V→Hp→VK→Prop:=fun x vs H Q=>∃l xs i k y,x = .ref l∧vs=[.int i]∧H l=some (.lst xs)∧-(2^63)≤i∧i<2^63∧seqIndex? i xs.length=some k∧xs[k]?=some y∧Q y (upd H l (.lst (xs.eraseIdx k)))
theorem ydh:MtM X "list.pop" yg8:=by
  intro pins s σ H x vs v us Q I rx rv h
  obtain ⟨l,xs,i,k,y,rfl,rfl,hH,h1,h2,hk,hy,q⟩:=h
  cases rx
  obtain ⟨u,rfl,ru⟩:=rv.one
  obtain ⟨t,rfl⟩:=ru
  obtain ⟨z,its,n,r,hl,e⟩:=I.lstM hH
  obtain ⟨w,hw,rw'⟩:=r.get hy
  refine call_meets F.slot_list_pop ⟨_,e,rfl⟩ F.entry_list_pop (F.args_list_pop_2 _ _)
    (MeetsSeq.list_pop_at l its.toArray n i t k w (fitsIndex_both h1 h2) (by rw [List.size_toArray,←hl];exact hk) (by rw [←Array.getElem?_toList];exact hw) (by rw [List.size_toArray];omega)) ⟨e,?_⟩
  refine ⟨y,_,I.lset (its':=its.eraseIdx k) hH e ?_ (r.eraseIdx k) ?_,rw',q⟩
  · show its.toArray.eraseIdxIfInBounds k=(its.eraseIdx k).toArray
    rw [List.eraseIdxIfInBounds_toArray]
  · have:=ydV xs k
    omega
def rCat:R2:=fun x y H Q=>∃l b xs zs,x = .ref l∧y = .ref b∧H l=some (.lst xs)∧H b=some (.lst zs)∧xs.length+zs.length≤sizeLine∧∀p,H p=none→Q (.ref p) (upd H p (.lst (xs++zs)))
theorem zcB:OpR X (binaryOp .Add) rCat:=by
  intro pins s σ H x y v u Q I rx ry h
  obtain ⟨l,b,xs,zs,rfl,rfl,hH,hB,hz,q⟩:=h
  cases rx
  cases ry
  obtain ⟨z,its,n,r,hl,e⟩:=I.lstM hH
  obtain ⟨z2,its2,n2,r2,hl2,e2⟩:=I.lstM hB
  refine PySem.P.add_list e e2 ?_ (by rw [List.size_toArray,List.size_toArray];omega)
  have ea:its.toArray++its2.toArray=(its++its2).toArray:=by simp
  rw [ea]
  exact ⟨.ref _,_,I.lnew (t':=s.toks) (r.append r2) (by rw [List.length_append];omega),rfl,q _ I.fresh⟩
def rRep:R2:=fun x y H Q=>∃l k xs,x = .ref l∧y = .int k∧H l=some (.lst xs)∧-(2^63)≤k∧k<2^63∧xs.length*k.toNat≤sizeLine∧
  ∀p,H p=none→Q (.ref p) (upd H p (.lst (List.replicate k.toNat xs).flatten))
theorem zgL {α:Type} (xs:List α) (k:Nat):(List.replicate k xs).flatten.length=k*xs.length:=by
  induction k with
  | zero=>simp
  | succ k ih=>rw [List.replicate_succ,List.flatten_cons,List.length_append,ih,Nat.succ_mul,Nat.add_comm]
theorem zgq:OpR X (binaryOp .Mult) rRep:=by
  intro pins s σ H x y v u Q I rx ry h
  obtain ⟨l,k,xs,rfl,rfl,hH,h1,h2,hz,q⟩:=h
  cases rx
  obtain ⟨t,rfl⟩:=ry
  obtain ⟨z,its,n,r,hl,e⟩:=I.lstM hH
  have hlen:its.toArray.size*k.toNat≤sizeLine:=by rw [List.size_toArray,←hl];exact hz
  have hcap:¬ its.toArray.size*k.toNat>(2^63-1)/8:=by
    have:(sizeLine:Nat)≤(2^63-1)/8:=by decide
    omega
  have hfit:¬ (!Builtin.List.listFitsIndex k)=true:=by
    rw [fitsIndex_both h1 h2]
    exact Bool.false_ne_true
  have hlong:¬ Builtin.List.listTooLong (its.toArray.size*k.toNat)=true:=by
    rw [yeA hlen]
    exact Bool.false_ne_true
  have hnew:List.foldl (fun x1 x2=>x1++x2) #[] (List.replicate (if its.toArray.isEmpty=true then 0 else k.toNat) its.toArray)=(List.replicate k.toNat its).flatten.toArray:=by
    have f0:∀m:Nat,List.foldl (fun x1 x2=>x1++x2) #[] (List.replicate m its.toArray)=(List.replicate m its).flatten.toArray:=fun m=>by
      have:=ydL its m []
      rw [List.nil_append] at this
      exact this
    rw [f0]
    cases its with
    | nil=>simp
    | cons a r'=>rw [if_neg (by simp)]
  refine wpAny_binaryOp_repeat_ref (T:="list") (U:="int") (by decide) ⟨_,e,rfl⟩ (fun s'=>typeIs_int s' k t) noFill_list_mul F.fills_int_mul F.slot_int_rmul repeat_list F.slot_int_index.lookup
    (call_meets F.slot_int_rmul (typeIs_int s k t) F.entry_int_rmul (F.args_int_rmul_2 _ _) (int___rmul___int_list k t l its.toArray n)
      ⟨e,rfl,⟨_,e,rfl⟩,call_meets F.slot_list_mul ⟨_,e,rfl⟩ F.entry_list_mul (F.args_list_mul_2 _ _) (AutoListH.list___mul___list_int_3 l its.toArray n k t hfit hcap hlong) ⟨e,?_⟩⟩)
  rw [hnew]
  exact ⟨.ref _,_,I.lnew (t':=s.toks) (r.rep k.toNat) (by rw [zgL,Nat.mul_comm];exact hz),rfl,q _ I.fresh⟩
end
section
variable {prog:Program} {w:World} {A:Around} {E:Value→Shared→Prop} {s:Shared}
end
section
variable {X:Cx}
end
end L2
namespace Att
open PySem PySem.W PySem.Calls PyProof.Rows
theorem zcM {P:Params} {h:Heap}:∀(ns:List Int) (vs:List Value),WellAll P h vs (ns.map WData.int)→IntsAre vs ns:=by
  intro ns
  induction ns with
  | nil =>
    intro vs w
    rw [List.map_nil] at w
    cases w
    exact .nil
  | cons n ns ih =>
    intro vs w
    rw [List.map_cons] at w
    cases w with
    | cons a b =>
      cases a
      exact .cons _ _ (ih _ b)
theorem ye9 {l:OpenLaw} {n:Nat} (hn:l.most=some n) {P:Params} {h:Heap} {args:List WData} {vals:List Value}
    (hpre:l.row.toRowW.claim.pre args=true) (hwl:WellAll P h vals args) :
    ∃a vs ns,vals=[Value.ref a]∧args=[WData.list (ns.map WData.int)]∧h.get? a=some { cls:=.type "list",data:=.seq vs.toArray }∧IntsAre vs ns∧ns.length≤n:=by
  have hsh:WShape.hasAll [] args [.list .int]=true:=(pre_splitW hpre).1
  have hc:l.pre.holds [] { args:=args }=true:=(pre_splitW hpre).2
  obtain ⟨d,r,rfl,h1,h2⟩:=hasAllW_cons hsh
  obtain rfl:=hasAllW_nil h2
  obtain ⟨xs,rfl,h3⟩:=hasW_list h1
  obtain ⟨ns,rfl⟩:=items_int h3
  have hlen:ns.length≤n:=by
    unfold OpenLaw.pre at hc
    have h4:(WTm.not (.lt (.lit (.int (n:Int))) (.len (.arg 0)))).holds [] { args:=[.list (ns.map .int)] }=true:=by
      have h4:=(holds_andW hc).1
      rw [hn] at h4
      exact h4
    have h5:=condW_of h4 (w_not (w_lt w_lit (w_len_list (w_arg rfl))))
    rw [List.length_map] at h5
    refine Nat.le_of_not_lt fun q=>?_
    have q':(n:Int)<((ns.length:Nat):Int):=by omega
    first
      | (rw [decide_eq_true q'] at h5;exact absurd h5 (by decide))
      | (simp at h5;omega)
  cases hwl with
  | cons w1 w2 =>
    cases w2
    cases w1 with
    | list ho hall=>exact ⟨_,_,ns,rfl,rfl,ho,zcM ns _ hall,hlen⟩
theorem zeZ (l:OpenLaw) (args:List WData):l.row.toRowW.claim.post args (.bool true) args=true :=
  postW_of (r:=l.row.toRowW) (X:=(true==true))
    (show WShape.has [] (.bool true) .bool=true by first|rfl|decide|simp [WShape.has,WShape.arms,WShape.armsAll])
    (show (WTm.eq .res (.lit (.bool true))).value [] { args:=args,res:=some (.bool true),after:=args }=some (.bool (true==true)) from w_eq_bool (w_res rfl) w_lit) rfl
theorem attach_call {l:OpenLaw} {n:Nat} {q:Program} {loose:List Str} {XP:(Str→Option Value)→Heap→Prop} {YP:World→Heap→Prop} {d:DefRec}
    (hn:l.most=some n) (hdf:d.params.defaults=[])
    (call:∀(w:World) (s₀ s₁:Shared) (mg mb:Str→Option Value) (fa:Addr) (o:Obj) (pm cd doc:Value) (a:Addr) (vs:List Value) (ns:List Int),
      Ground q loose [] XP w s₀ mg mb s₁.heap→YP w s₁.heap→
      s₁.heap.get? fa=some o→o.data = .func (docDef d.name d.params d.body d.scope pm cd doc)→s₁.heap.CodeRec cd d.name→mg d.name=some (.ref fa)→
      s₁.heap.get? a=some { cls:=.type "list",data:=.seq vs.toArray }→IntsAre vs ns→ns.length≤n→s₁.gens = #[]→
      codeAny (model l.prog w) callerA (.call (.ref fa) ⟨[.ref a],[]⟩) (fun r s'=>r = .ok (.ret (.bool true))∧OldK s₁.heap s'.heap∧s'.os=s₁.os∧AllBare s'.gens) s₁) :
    WalkO q loose XP YP l.row.toRowW d [] (fun f vs=>PySem.call f vs):=by
  intro w s₀ s₁ mg mb G Y fa o pm cd doc dV kV ho hd hcd hD hmg hg args vals as hpre hlay hrd hwl hlo
  obtain rfl:dV = .none:=Dflts.none hD hdf
  obtain rfl:kV = .none:=Dflts.noKw hD
  obtain ⟨a,vs,ns,rfl,rfl,hobj,hints,hlen⟩:=ye9 hn hpre hwl
  refine enter_call (codeAny_mono (call w s₀ s₁ mg mb fa o pm cd doc a vs ns G Y ho (fd_plain hd) hcd hmg hobj hints hlen hg) fun r s' hq=>?_)
  obtain ⟨rfl,h2,h3,h4⟩:=hq
  exact ⟨.inl ⟨.bool true,.bool true,[],rfl,fun _=>rfl,.bool true,zeZ l _,fun _=>⟨List.Pairwise.nil,fun _ hm=>(nomatch hm)⟩⟩,h2,h3,h4⟩
section
variable {prog:Program} {w:World} {A:Around} {E:Value→Shared→Prop} {s:Shared} {K:Frag}
end
end Att
namespace L2
open PySem PySem.Spec PyProof.Rows
theorem zdx:∀ {vs:List Value} {ns:List Int},IntsAre vs ns→Vals (ns.map V.int) vs
  | _,_,.nil=>.nil
  | _,_,.cons n t h=>.cons ⟨t,rfl⟩ (zdx h)
def Only (H:Hp):Prop:=∀b,H b=none∨∃o xs,H b=some (.frz o (.lst xs))
theorem yf1 {P:Program} {w:World} {K:PySem.W.Frag} {mg mb:Str→Option Value} {CX:CXT} {k:Nat} {fa a:Addr} {fd:FuncData} {x:Str} {sp:Sp} {s₁:Shared} {vs:List Value} {ns:List Int}
    (KX:K.In s₁.heap) (hns:s₁.heap.Ns mainGlobals mg) (hb:s₁.heap.Ns builtinsNs mb) (hbb:∀x:Str,x≠"__name__"→mb x=bootBuiltins x) (hlim:s₁.heap.NoLimit) (hg:s₁.gens = #[])
    (ha:s₁.heap.get? a=some { cls:=.type "list",data:=.seq vs.toArray }) (hi:IntsAre vs ns) (hl:ns.length≤sizeLine) (hr:Room k callerA)
    (F:∀base:Heap,K.In base→base.Ns mainGlobals mg→FnOk P w K mg base CX k fa fd [x] sp) (hbind:∀(s:Shared) (u:Value),BindsTo s fd ⟨[u],[]⟩ [(x,u)])
    (hsp:∀H:Hp,Only H→SqL K H a (ns.map V.int)→sp [.ref a] H (fun v _=>v = .bl true) fun _ _ _=>False)
    (hCX:∀H e s',CX [] H s₁ (fun _ _ _=>False) e s'→False) :
    codeAny (model P w) callerA (.call (.ref fa) ⟨[.ref a],[]⟩) (fun r s'=>r = .ok (.ret (.bool true))∧OldK s₁.heap s'.heap∧s'.os=s₁.os∧AllBare s'.gens) s₁:=by
  have rv:=zdx hi
  have lenV:=hi.length
  have core:∀H:Hp,Only H→SqL K H a (ns.map V.int)→HOk P w H s₁.heap→(∀b,H b≠none→b=a)→(H a≠none→K.lookup a=none)→
      codeAny (model P w) callerA (.call (.ref fa) ⟨[.ref a],[]⟩) (fun r s'=>r = .ok (.ret (.bool true))∧OldK s₁.heap s'.heap∧s'.os=s₁.os∧AllBare s'.gens) s₁:=by
    intro H hO hS hok hA hK
    have base_of:∀ {b:Addr} {o:Obj},s₁.heap.get? b=some o→H b=none→(hidT s₁.heap H).get? b=some o:=fun e n=>yfZ e n
    have noA:∀ {b:Addr} {o:Obj} {es:Array DictEntry} {ep:Nat},s₁.heap.get? b=some o→o.data = .dict es ep→H b=none:=fun {b o es ep} e d=>by
      cases q:H b with
      | none=>rfl
      | some u =>
        have e':b=a:=hA b (by rw [q];simp)
        subst e'
        rw [ha] at e;cases e
        have d':Data.seq vs.toArray _=Data.dict es ep:=d
        cases d'
    have nsK:∀ {b:Addr} {m:Str→Option Value},s₁.heap.Ns b m→(hidT s₁.heap H).Ns b m:=fun {b m} ⟨o,es,ep,e,d,r⟩=>⟨o,es,ep,base_of e (noA e d),d,r⟩
    have hKb:K.In (hidT s₁.heap H):=fun b o e=>base_of (KX b o e) (by
      cases q:H b with
      | none=>rfl
      | some u =>
        have e':b=a:=hA b (by rw [q];simp)
        subst e'
        rw [hK (by rw [q];simp)] at e;cases e)
    have hM:Mod K mg (hidT s₁.heap H):=⟨hKb,nsK hns,⟨mb,nsK hb,hbb⟩,let ⟨mc,h1,h2⟩:=hlim;⟨mc,nsK h1,h2⟩⟩
    have e0:Env0 P w K mg (hidT s₁.heap H) callerA [] s₁ H:=⟨rfl,hM,fun b o e=>zgB e,Nat.le_of_eq (zfO _ _),trivial,fun b hb=>absurd (show b∈([]:List Addr) from hb) (by simp),hok,.of_eq hg⟩
    refine codeAny_mono ((F _ hKb (nsK hns)).run callerA [] s₁ H ⟨[.ref a],[]⟩ [.ref a] [.ref a] _ _ hr e0 (hbind s₁ (.ref a)) (.cons rfl .nil) (hsp H hO hS)) fun r s' h=>?_
    cases r with
    | error e=>exact (hCX H e s' h).elim
    | ok fl =>
      cases fl with
      | next=>exact False.elim h
      | brk=>exact False.elim h
      | cont=>exact False.elim h
      | ret u =>
        obtain ⟨v,H',os,bare,un,hok',r',q⟩:=h
        have q':v = .bl true:=q
        subst q'
        obtain rfl:u=Value.bool true:=r'
        refine ⟨rfl,OldK.of_keep fun b o e=>?_,os,bare⟩
        cases q:H b with
        | none=>exact un.keep b o e q (by intro z;exact absurd (show b∈([]:List Addr) from z) (by simp)) (by simp)
        | some u =>
          rcases hO b with z | ⟨ob,xs,z⟩
          · rw [q] at z;cases z
          · have z2:=un.frzs b ob _ z
            obtain ⟨e1,_⟩:=hok b _ z
            obtain ⟨e2,_⟩:=hok' b _ z2
            rw [e] at e1;cases e1
            exact e2
  cases hk:K.lookup a with
  | some o =>
    have e:=KX a o hk
    rw [ha] at e
    cases e
    refine core (fun _=>none) (fun _=>.inl rfl) (.inr ⟨_,vs.toArray,_,hk,rfl,rfl,rfl,by rw [List.size_toArray,lenV];exact hl,by simpa using rv⟩) (fun b u z=>by have z':(none:Option HO)=some u:=z;cases z') (fun b z=>absurd rfl z) fun z=>absurd rfl z
  | none =>
    refine core (fun b=>if b=a then some (.frz { cls:=.type "list",data:=.seq vs.toArray } (.lst (ns.map V.int))) else none) (fun b=>?_) (.inl (.inr ⟨{ cls:=.type "list",data:=.seq vs.toArray },if_pos rfl⟩)) (fun b u z=>?_) (fun b z=>?_) fun _=>hk
    · by_cases hb:b=a
      · exact .inr ⟨_,_,if_pos hb⟩
      · exact .inl (if_neg hb)
    · by_cases hb:b=a
      · have z':=(if_pos hb).symm.trans z
        cases z'
        subst hb
        exact ⟨ha,by rw [List.length_map];exact hl,vs,_,rv,ha⟩
      · have z':=(if_neg hb).symm.trans z
        cases z'
    · by_cases hb:b=a
      · exact hb
      · exact absurd (if_neg hb) z
end L2
namespace L2
open PySem PySem.Spec PyProof.Rows
abbrev KOf {K:PySem.W.Frag} {h:Heap} (_:K.In h):PySem.W.Frag:=K
theorem walk_of {l:PySem.W.OpenLaw} {n k:Nat} {q:Program} {loose:List Str} {XP:(Str→Option Value)→Heap→Prop} {YP:World→Heap→Prop} {d:DefRec} {K:Params→PySem.W.Frag} {CX:World→CXT} {sp:World→Sp} {x:Str}
    (hn:l.most=some n) (hn2:n≤sizeLine) (hdf:d.params.defaults=[]) (hr:Room k callerA)
    (hY:∀(w:World) (h:Heap),YP w h→(K w.params).In h)
    (F:∀(w:World) (mg:Str→Option Value) (fa:Addr) (h:Heap),(K w.params).In h→h.Ns mainGlobals mg→mg d.name=some (.ref fa)→
      ∃fd:FuncData,(∀(s:Shared) (u:Value),BindsTo s fd ⟨[u],[]⟩ [(x,u)])∧
        ∀base:Heap,(K w.params).In base→base.Ns mainGlobals mg→FnOk l.prog w (K w.params) mg base (CX w) k fa fd [x] (sp w))
    (hsp:∀(w:World) (H:Hp) (a:Addr) (ns:List Int),ns.length≤n→Only H→SqL (K w.params) H a (ns.map V.int)→sp w [.ref a] H (fun v _=>v = .bl true) fun _ _ _=>False)
    (hCX:∀(w:World) (H:Hp) (s:Shared) (e:Value) (s':Shared),CX w [] H s (fun _ _ _=>False) e s'→False) :
    PySem.W.WalkO q loose XP YP l.row.toRowW d [] (fun f vs=>PySem.call f vs):=by
  refine Att.attach_call hn hdf fun w s₀ s₁ mg mb fa o pm cd doc a vs ns G Y ho hd hcd hmg hobj hints hlen hg=>?_
  have KX:=hY w _ Y
  obtain ⟨fd,hb,hF⟩:=F w mg fa _ KX G.T.g hmg
  exact yf1 KX G.T.g G.T.b G.T.builtins G.T.nolimit hg hobj hints (Nat.le_trans hlen hn2) hr hF hb (fun H hO hS=>hsp w H a ns hlen hO hS) fun H e s'=>hCX w H s₁ e s'
end L2
namespace L2
open PySem PySem.Spec PyProof.Rows
def zaj (s:Stmt):Arguments:=match s with
  | .FunctionDef _ a _ _ _ _ _ _ _ _=>a
  | _=>{ posonlyargs:=[],args:=[],vararg:=none,kwonlyargs:=[],kw_defaults:=[],kwarg:=none,defaults:=[] }
def yai (s:Stmt):List Stmt:=match s with
  | .FunctionDef _ _ b _ _ _ _ _ _ _=>b
  | _=>[]
def zad (s:Stmt):Scope:=match s with
  | .FunctionDef _ _ _ _ _ _ sc _ _ _=>sc
  | _=>{ kind:=.function,names:=[],isGenerator:=false,isCoroutine:=false }
abbrev CX0:CXT:=fun _ _ _ _ _ _=>False
abbrev E0:XK:=fun _ _ _=>False
theorem zhw {X:Cx}:yeY CX0 X E0:=fun _ _ _ _ _ _ _ h=>h.elim
structure Fun (K:PySem.W.Frag) (x qual:Str) (st:Stmt) (f:Addr) (fd:FuncData):Prop where
  ex:∃(oc:Value) (od:Option Addr) (kV doc pm:Value) (an:Option Addr) (cdv ct:Value) (osl:Array (Option Value)),
    fd=PySem.W.fnOf x qual (zaj st) (yai st) (zad st) .none kV doc pm an cdv ct∧K.lookup f=some ⟨oc,od,.func fd,osl⟩∧PySem.W.codeIn K cdv qual=true
  kp:PySem.W.keepIn K (.ref f)=true
section
variable {P:Program} {w:World} {K:PySem.W.Frag} {mg:Str→Option Value} {base:Heap}
theorem Fun.ok {x qual:Str} {st:Stmt} {f:Addr} {fd:FuncData} {N ps:List Str} {k:Nat} {sp:Sp} (F:Fun K x qual st f fd) (S:yaj N ps (zad st)) (len:∀vs H Q E,sp vs H Q E→vs.length=ps.length)
    (hbody:∀(cdv:Value) (A:Around) (outer:List Env) (s:Shared) (H:Hp) (vs:List V) (Q:VK) (E:XK),Room k (A.deeper (envOfC qual (zad st) s.heap.objs.size f cdv))→sp vs H Q E→
      ∃t,PSs (cxOf CX0 P w K mg base N qual (zad st) f cdv A outer s H E).nox (yai st) t∧t { nx:=fun _ H'=>Q .non H',rt:=Q } (zdS N vs) H):FnOk P w K mg base CX0 (k+1) f fd ps sp:=by
  obtain ⟨oc,od,kV,doc,pm,an,cdv,ct,osl,rfl,lk,hcd⟩:=F.ex
  refine yho lk hcd S len fun A outer s H vs Q E hr hsp=>?_
  obtain ⟨t,h,q⟩:=hbody cdv A outer s H vs Q E hr hsp
  exact ⟨t,h.nox,q⟩
theorem Fun.binds {x qual:Str} {st:Stmt} {f:Addr} {fd:FuncData} {ps:List Str} (F:Fun K x qual st f fd)
    (h:∀(kV doc pm:Value) (an:Option Addr) (cdv ct:Value) (us:List Value),us.length=ps.length→bindArgs (PySem.W.fnOf x qual (zaj st) (yai st) (zad st) .none kV doc pm an cdv ct) ⟨us,[]⟩=pure (ps.zip us)):yeG K fd ps []:=by
  obtain ⟨oc,od,kV,doc,pm,an,cdv,ct,osl,rfl,lk,hcd⟩:=F.ex
  exact .all (h kV doc pm an cdv ct)
theorem yap {x qual:Str} {st:Stmt} {f:Addr} {oc:Value} {od an:Option Addr} {osl:Array (Option Value)} {kV doc pm cdv ct:Value} (l:K.lookup f=some ⟨oc,od,.func (PySem.W.fnOf x qual (zaj st) (yai st) (zad st) .none kV doc pm an cdv ct),osl⟩)
    (c:PySem.W.codeIn K cdv qual=true) (k:PySem.W.keepIn K (.ref f)=true):Fun K x qual st f (PySem.W.fnOf x qual (zaj st) (yai st) (zad st) .none kV doc pm an cdv ct):=⟨⟨oc,od,kV,doc,pm,an,cdv,ct,osl,rfl,l,c⟩,k⟩
end
theorem zbn {A:Around} {k:Nat} (hr:Room k A):A.units+1<cLine:=Nat.lt_of_le_of_lt (Nat.add_le_add_left (by decide:1≤64) _) hr.units
theorem zam {n:Nat} (h:n≤1000):n<sizeLine:=Nat.lt_of_le_of_lt h (by decide)
section
variable {X:Cx}
theorem pv (i:Nat) {x:Str} {pos:Pos} (hN:X.N[i]?=some x:=by rfl) (hv:Vis X.env.scope x:=by first|exact Or.inl rfl|exact Or.inr (Or.inl rfl)|exact Or.inr (Or.inr rfl)) (hd:(x==("__debug__":Str))=false:=by decide)
    (hcd:(x==("__classdict__":Str))=false:=by decide):PE X (.Name x pos) (tVar i):=zg6 hN hv hd hcd
end
theorem ite2 {c A B:Prop} [Decidable c] (h1:c→A) (h2:¬ c→B):if c then A else B:=by
  by_cases h:c
  · rw [if_pos h]
    exact h1 h
  · rw [if_neg h]
    exact h2 h
def Same (H H':Hp):Prop:=∀b o,H b=some o→H' b=some o
theorem Same.refl (H:Hp):Same H H:=fun _ _ h=>h
theorem Same.trans {H H1 H2:Hp} (a:Same H H1) (b:Same H1 H2):Same H H2:=fun c o h=>b c o (a c o h)
theorem Same.free {H H':Hp} (e:Same H H') {l:Addr} (h:H' l=Option.none):H l=Option.none:=by
  cases q:H l with
  | none=>rfl
  | some o =>
    rw [e l o q] at h
    cases h
theorem Same.seq {K:PySem.W.Frag} {H H':Hp} {a:Addr} {xs:List V} (e:Same H H') (h:SqL K H a xs):SqL K H' a xs:=by
  rcases h with (h | ⟨o,h⟩)|h
  · exact .inl (.inl (e _ _ h))
  · exact .inl (.inr ⟨o,e _ _ h⟩)
  · exact .inr h
end L2
end
section
-- text: PpDict
namespace L2
open PySem PySem.Spec PyProof.Rows
section
variable {κ:Type} [DecidableEq κ]
def valV (kvs:List (κ×V)) (k:κ):Option V:=(kvs.find? fun kv=>decide (kv.1=k)).map (·.2)
def putK (kvs:List (κ×V)) (k:κ) (v:V):List (κ×V) :=
  if (kvs.any fun kv=>decide (kv.1=k))=true then kvs.map (fun kv=>if kv.1=k then (kv.1,v) else kv) else kvs++[(k,v)]
theorem yeh {p:κ×V} {r:List (κ×V)} {k:κ} (e:p.1=k):valV (p::r) k=some p.2:=by simp [valV,List.find?_cons,e]
theorem yei {p:κ×V} {r:List (κ×V)} {k:κ} (e:¬ p.1=k):valV (p::r) k=valV r k:=by simp [valV,List.find?_cons,e]
theorem zd3 (kvs:List (κ×V)) (k:κ) (v:V):(putK kvs k v).length≤kvs.length+1:=by
  unfold putK
  split
  · rw [List.length_map];omega
  · rw [List.length_append,List.length_cons,List.length_nil];omega
theorem RelO.isSome_eq {o:Option V} {u:Option Value} (r:RelO o u):o.isSome=u.isSome:=by
  cases o with
  | none=>cases u with
    | none=>rfl
    | some _=>exact (show False from r).elim
  | some _=>cases u with
    | none=>exact (show False from r).elim
    | some _=>rfl
theorem KV.val {kvs:List (κ×V)} {vs:List (κ×Value)} (r:KV kvs vs) (k:κ):RelO (valV kvs k) (valueAt vs k):=by
  unfold KV at r
  induction r with
  | nil=>exact True.intro
  | @cons p q ps qs h t ih =>
    obtain ⟨h1,h2⟩:=h
    by_cases e:p.1=k
    · have e':q.1=k:=h1.symm.trans e
      have b:valueAt (q::qs) k=some q.2:=by simp [valueAt,List.find?_cons,e']
      rw [yeh e,b];exact h2
    · have e':¬ q.1=k:=fun z=>e (h1.trans z)
      have b:valueAt (q::qs) k=valueAt qs k:=by simp [valueAt,List.find?_cons,e']
      rw [yei e,b];exact ih
theorem KV.any {kvs:List (κ×V)} {vs:List (κ×Value)} (r:KV kvs vs) (k:κ):(kvs.any fun kv=>decide (kv.1=k))=vs.any fun kv=>decide (kv.1=k):=by
  unfold KV at r
  induction r with
  | nil=>rfl
  | cons h t ih=>rw [List.any_cons,List.any_cons,ih,h.1]
theorem KV.repl {kvs:List (κ×V)} {vs:List (κ×Value)} (r:KV kvs vs) (k:κ) {y:V} {u:Value} (ry:RelV y u) :
    KV (kvs.map fun kv=>if kv.1=k then (kv.1,y) else kv) (vs.map fun kv=>if kv.1=k then (kv.1,u) else kv):=by
  unfold KV at r ⊢
  induction r with
  | nil=>exact .nil
  | @cons p q ps qs h t ih =>
    rw [List.map_cons,List.map_cons]
    refine .cons ?_ ih
    obtain ⟨h1,h2⟩:=h
    by_cases e:p.1=k
    · rw [if_pos e,if_pos (h1.symm.trans e)];exact ⟨h1,ry⟩
    · rw [if_neg e,if_neg (fun z=>e (h1.trans z))];exact ⟨h1,h2⟩
theorem KV.put {kvs:List (κ×V)} {vs:List (κ×Value)} (r:KV kvs vs) (k:κ) {y:V} {u:Value} (ry:RelV y u):KV (putK kvs k y) (stored vs k u):=by
  unfold putK stored
  rw [r.any k]
  by_cases e:(vs.any fun kv=>decide (kv.1=k))=true
  · rw [if_pos e,if_pos e];exact r.repl k ry
  · rw [if_neg e,if_neg e];exact Paired.snoc r ⟨rfl,ry⟩
theorem KV.keys {kvs:List (κ×V)} {vs:List (κ×Value)} (r:KV kvs vs):kvs.map (·.1)=vs.map (·.1):=by
  unfold KV at r
  induction r with
  | nil=>rfl
  | cons h t ih=>rw [List.map_cons,List.map_cons,ih,h.1]
end
theorem ze8 {P:Program} {w:World} {k:Key} {u:Value} (r:RelV (kV k) u):(yaP P w).is k u=true:=by
  cases k with
  | inl i=>obtain ⟨t,e⟩:=(show ∃t,u=Value.int i t from r);subst e;exact zec P w i t
  | inr x=>obtain ⟨t,e⟩:=(show ∃t,u=Value.str x t from r);subst e;exact zd7 P w x t
theorem zdO {P:Program} {w:World}:∀ {ks:List Key} {us:List Value},Vals (ks.map kV) us→ItemsAre (yaP P w) ks us
  | [],_,r=>by rw [List.map_nil] at r;cases r;exact .nil
  | k::ks,_,r=>by
    rw [List.map_cons] at r
    cases r with
    | cons h t=>exact .cons (ze8 h) (zdO t)
abbrev KT (H:Hp):List (List Key×V)→List (List Key×Addr×Value)→Prop:=Paired fun p q=>p.1=q.1∧H q.2.1=some (.tup (p.1.map kV))∧RelV p.2 q.2.2
theorem KT.val {H:Hp} {kvs:List (List Key×V)} {xs:List (List Key×Addr×Value)} (r:KT H kvs xs) (k:List Key):RelO (valV kvs k) ((atKey xs k).map (·.2)):=by
  induction r with
  | nil=>exact True.intro
  | @cons p q ps qs h t ih =>
    obtain ⟨h1,_,h2⟩:=h
    by_cases e:p.1=k
    · have e':q.1=k:=h1.symm.trans e
      have b:atKey (q::qs) k=some q.2:=by simp [atKey,List.find?_cons,e']
      rw [yeh e,b];exact h2
    · have e':¬ q.1=k:=fun z=>e (h1.trans z)
      have b:atKey (q::qs) k=atKey qs k:=by simp [atKey,List.find?_cons,e']
      rw [yei e,b];exact ih
section
variable {P:Program} {w:World} {H:Hp} {h:Heap} {a:Addr}
theorem zg9 {u:HO} (ok:HOk P w H h) (e:Rd H a u):ybr P w H h a u:=e.ok ok
theorem yf2 {kvs:List (Key×V)} (ok:HOk P w H h) (e:Rd H a (.dK kvs)):kvs.length≤sizeLine∧(a==sysModules)=false∧∃vs,KV kvs vs∧h.DictOf (yaP P w) a vs :=
  show ybr P w H h a (.dK kvs) from zg9 ok e
theorem zhx {kvs:List (Key×V)} (ok:HOk P w H h) (e:H a=some (.dK kvs)):kvs.length≤sizeLine∧(a==sysModules)=false∧∃vs,KV kvs vs∧h.DictOf (yaP P w) a vs:=yf2 ok (.inl e)
theorem zfh {ks:List Key} (ok:HOk P w H h) (e:H a=some (.tup (ks.map kV))):(tupleKind (yaP P w)).is h ks a:=by
  obtain ⟨_,its,r,o,h1,h2,n,h3⟩:=(show ybr P w H h a (.tup (ks.map kV)) from ok a _ e)
  exact ⟨o,its.toArray,n,h1,h2,h3,by simpa using zdO r⟩
theorem ygT {kvs:List (List Key×V)} (ok:HOk P w H h) (e:Rd H a (.dT kvs)):kvs.length≤sizeLine∧(a==sysModules)=false∧
    ∃xs,KT H kvs xs∧h.DictOfH (tupleKind (yaP P w)) a xs:=by
  obtain ⟨z,y,xs,r,o,es,ep,h1,h2,h3,h4,h5⟩:=(show ybr P w H h a (.dT kvs) from zg9 ok e)
  refine ⟨z,y,xs,r,o,es,ep,h1,h2,h3,h4,fun x hx=>?_,h5⟩
  have all:∀ {l:List (List Key×V)} {m:List (List Key×Addr×Value)},KT H l m→∀x∈m,(tupleKind (yaP P w)).is h x.1 x.2.1:=by
    intro l m q
    induction q with
    | nil=>intro x hx;exact nomatch hx
    | @cons p q ps qs hq t ih =>
      intro x hx
      rcases List.mem_cons.mp hx with e|hx
      · subst e
        exact zfh ok (by rw [←hq.1];exact hq.2.1)
      · exact ih x hx
  exact all r x hx
end
def DGet (H:Hp) (a:Addr) (y:V) (r:Option V):Prop :=
  (∃kvs k,Rd H a (.dK kvs)∧y=kV k∧r=valV kvs k)∨∃kvs k b,Rd H a (.dT kvs)∧y = .ref b∧H b=some (.tup (k.map kV))∧r=valV kvs k
theorem DGet.k {H:Hp} {a:Addr} {kvs:List (Key×V)} {k:Key} (e:H a=some (.dK kvs)):DGet H a (kV k) (valV kvs k):=.inl ⟨kvs,k,.inl e,rfl,rfl⟩
section
variable {X:Cx} {pins:List (Addr×Obj)} {σ:St} {H:Hp} {s:Shared} {a:Addr} {y v:V} {u r:Value} {o:Option V} {A:Around} {E:Value→Shared→Prop}
theorem Inv.big (I:Inv X pins σ H s):sysModules<s.heap.objs.size:=by
  have h:mainGlobals<s.heap.objs.size:=(I.mod.glob.keeps I.bk).lt
  exact Nat.lt_trans (by decide) h
theorem zeV {Q:Value→Shared→Prop} (hu:A.units+1<cLine) (I:Inv X pins σ H s) (g:DGet H a y (some v)) (ry:RelV y u) (h:∀w' s',Inv X pins σ H s'→RelV v w'→Q w' s') :
    wpAny (model X.prog X.w) A (getItem (.ref a) u) Q E s:=by
  rcases g with ⟨kvs,k,e,ey,l⟩ | ⟨kvs,k,b,e,ey,eb,l⟩
  · subst ey
    obtain ⟨z,hd,vs,rel,dd⟩:=yf2 I.hok e
    obtain ⟨w',hw,rw'⟩:=RelO.some_of (v:=v) (o:=valueAt vs k) (by rw [l];exact rel.val k)
    exact wpAny_getItem_of (ze8 ry) dd.mapOf hw (h w' _ (I.tok _) rw')
  · subst ey
    cases (show u=Value.ref b from ry)
    obtain ⟨z,hd,xs,rel,dd⟩:=ygT I.hok e
    obtain ⟨w',hw,rw'⟩:=RelO.some_of (v:=v) (o:=(atKey xs k).map (·.2)) (by rw [l];exact rel.val k)
    obtain ⟨p,hp,hp2⟩:=Option.map_eq_some_iff.mp hw
    refine wpAny_getItem_heap (tupleKind_room_in1 hu) (zfh I.hok eb) dd hp ?_
    rw [hp2]
    exact h w' _ (I.tok _) rw'
theorem d_in {Q:Value→Shared→Prop} (hu:A.units+1<cLine) (I:Inv X pins σ H s) (g:DGet H a y o) (ry:RelV y u) (h:∀s',Inv X pins σ H s'→Q (.bool o.isSome) s') :
    wpAny (model X.prog X.w) A (compareOp .In u (.ref a)) Q E s:=by
  rcases g with ⟨kvs,k,e,ey,l⟩ | ⟨kvs,k,b,e,ey,eb,l⟩
  · subst ey
    obtain ⟨z,hd,vs,rel,dd⟩:=yf2 I.hok e
    refine wpAny_in_of (ze8 ry) hd dd.mapOf ?_
    rw [←(rel.val k).isSome_eq,←l]
    exact h _ (I.tok _)
  · subst ey
    cases (show u=Value.ref b from ry)
    obtain ⟨z,hd,xs,rel,dd⟩:=ygT I.hok e
    refine wpAny_in_heap (tupleKind_room_in1 hu) (zfh I.hok eb) hd dd ?_
    have q:=(rel.val k).isSome_eq
    rw [Option.isSome_map] at q
    rw [←q,←l]
    exact h _ (I.tok _)
theorem zgW {h':Heap} {t':Nat} {ob:HO} (I:Inv X pins σ H s) (mu:Mut (H a)) (hs:Heap.SameBut a s.heap h') (he:∃q,h'.get? a=some q) (new:ybr X.prog X.w (upd H a ob) h' a ob) :
    Inv X pins σ (upd H a ob) { s with heap:=h',toks:=t' } :=
  I.write (x:=a) (e:=a) mu (.inl rfl) (fun b q hb z=>(hs.2 b hb).trans z) he new
theorem zg8 {P:Program} {w:World} {H':Hp} {h':Heap} {kvs:List (Key×V)} {vs:List (Key×Value)} (z:kvs.length≤sizeLine) (hd:(a==sysModules)=false) (rel:KV kvs vs) (dd:h'.DictOf (yaP P w) a vs) :
    ybr P w H' h' a (.dK kvs):=⟨z,hd,vs,rel,dd⟩
end
section
variable {X:Cx} {pins:List (Addr×Obj)} {σ:St} {H:Hp} {s:Shared} {a:Addr} {kvs:List (Key×V)} {k:Key} {u:Value} {A:Around} {E:Value→Shared→Prop}
end
def NoSl (i:Expr):Prop:=∀ov iv,subscripted i false ov iv=operate [ov,iv] (getItem ov iv)
theorem zgE {prog:Program} {w:World} {A:Around} {E:Value→Shared→Prop} {s:Shared} {env:Env} {value slice:Expr} {pos:Pos} {T id:String} {Q:Value→Shared→Prop}
    (hl:typeLookup (.type T) "__getitem__"=pure (some (.builtin id))) (hs:NoSl slice)
    (h:wpAny (model prog w) A (eval value env) (fun o s₁=>wpAny (model prog w) A (eval slice env) (fun i s₂=>s₂.TypeIs o T∧wpAny (model prog w) A (getItem o i) Q E s₂) E s₁) E s) :
    wpAny (model prog w) A (eval (.Subscript value slice pos) env) Q E s:=by
  refine Subscript_ (wpAny_mono h (fun o s₁ h₁=>wpAny_mono h₁ (fun i s₂ h₂=>?_) fun _ _ x=>x) fun _ _ x=>x)
  obtain ⟨hT,h₂⟩:=h₂
  unfold subscriptTail
  refine wpAny_bind ?_
  rw [getitemInPython_of_ne hT.not_modules]
  refine wpAny_bind (wpAny_specialOf hT hl ?_)
  have fin:wpAny (model prog w) A (subscripted slice false o i) (fun r s₃=>wpAny (model prog w) A (letTemporaryGo value o r >>= fun _=>pure r) Q E s₃) E s₂:=by
    rw [hs o i]
    exact wpAny_operating (wpAny_mono h₂ (fun r s₃ h₃=>wpAny_bind (wpAny_letTemporaryGo (wpAny_pure h₃))) fun _ _ x=>x)
  first
    | exact wpAny_pure (wpAny_bind fin)
    | exact wpAny_bind (wpAny_pure (wpAny_bind fin))
    | exact wpAny_bind fin
theorem yd9 {X:Cx} {pins:List (Addr×Obj)} {σ:St} {H:Hp} {s:Shared} {a:Addr} {y:V} {o:Option V} (I:Inv X pins σ H s) (g:DGet H a y o):s.TypeIs (.ref a) "dict":=by
  rcases g with ⟨kvs,k,e,_,_⟩ | ⟨kvs,k,b,e,_,_,_⟩
  · obtain ⟨_,_,vs,_,dd⟩:=yf2 I.hok e
    exact dd.typeIs
  · obtain ⟨_,_,xs,_,dd⟩:=ygT I.hok e
    exact dd.typeIs
def zhn (td ty:TE):TE:=fun σ H Q=>td σ H fun x H1=>ty σ H1 fun y H2=>∃a v,x = .ref a∧DGet H2 a y (some v)∧Q v H2
def tDIn (ty td:TE):TE:=fun σ H Q=>ty σ H fun y H1=>td σ H1 fun x H2=>∃a o,x = .ref a∧DGet H2 a y o∧Q (.bl o.isSome) H2
section
variable {X:Cx} {o i e value:Expr} {pos pos' tpos:Pos} {td ty tv:TE}
theorem yaz (hu:X.A.units+1<cLine) (ho:PE X o td) (hi:PE X i ty) (hs:NoSl i):PE X (.Subscript o i pos) (zhn td ty):=by
  intro pins s σ H Q I h
  refine zgE PySem.F.slot_dict_getitem.lookup hs (thn (ho pins s σ H _ I h) fun u s1 ⟨x,H1,I1,rx,q1⟩=>thn (hi pins s1 σ H1 _ I1 q1) fun iv s2 ⟨y,H2,I2,ry,a,v,ex,g,q2⟩=>?_)
  subst ex
  obtain rfl:u=Value.ref a:=rx
  exact ⟨yd9 I2 g,zeV hu I2 g ry fun w' s3 I3 rw'=>⟨v,H2,I3,rw',q2⟩⟩
theorem yha (hu:X.A.units+1<cLine) (hi:PE X i ty) (ho:PE X o td):PC X .In i o (tDIn ty td):=by
  intro pins s σ H Q I h
  refine thn (hi pins s σ H _ I h) fun iv s1 ⟨y,H1,I1,ry,q1⟩=>thn (ho pins s1 σ H1 _ I1 q1) fun u s2 ⟨x,H2,I2,rx,a,ov,ex,g,q2⟩=>?_
  subst ex
  obtain rfl:u=Value.ref a:=rx
  exact d_in hu I2 g ry fun s3 I3=>⟨.bl ov.isSome,H2,I3,rfl,q2⟩
end
theorem yez {P:Program} {w:World} {H:Hp} (h:Heap) (hb:sysModules<h.objs.size):ybr P w H (h.push { cls:=.type "dict",data:=.dict #[] }) h.objs.size (.dK []) :=
  ⟨Nat.zero_le _,beq_eq_false_iff_ne.mpr (Ne.symm (Nat.ne_of_lt hb)),[],.nil,Heap.DictOf.new h⟩
def yhh:TE:=fun _ H Q=>∀p,H p=none→Q (.ref p) (upd H p (.dK []))
section
variable {X:Cx} {pos:Pos}
theorem yf0:PE X (.Dict [] [] pos) yhh:=fun pins s σ H Q I h =>
  wpAny_Dict_empty ⟨.ref s.heap.objs.size,_,I.laid (a:=s.heap.objs.size) (o:=.dK []) (t':=s.toks) (fun _ _ q=>Heap.get?_push_of_some _ q) (Nat.le_refl _) (yez s.heap I.big),rfl,h _ (I.hok.fresh (Nat.le_refl _))⟩
end
def yeX:List (TE×TE)→St→Hp→(List (V×V)→Hp→Prop)→Prop
  | [],_,H,Q=>Q [] H
  | (tk,tv)::r,σ,H,Q=>tk σ H fun x H1=>tv σ H1 fun y H2=>yeX r σ H2 fun ps H3=>Q ((x,y)::ps) H3
abbrev VV:List (V×V)→List (Value×Value)→Prop:=Paired fun p q=>RelV p.1 q.1∧RelV p.2 q.2
def PPs (X:Cx) (pos:Pos) (keys:List (Option Expr)) (values:List Expr) (trs:List (TE×TE)):Prop :=
  ∀(pins:List (Addr×Obj)) (s:Shared) (σ:St) (H:Hp) (Q:List (V×V)→Hp→Prop),Inv X pins σ H s→yeX trs σ H Q→
    wpAny (model X.prog X.w) X.A (evalPairs (pairTrees keys values X.env pos)) (fun vs s'=>∃ps H',Inv X pins σ H' s'∧VV ps vs∧Q ps H') X.xe s
theorem zgz {X:Cx} {pos:Pos}:PPs X pos [] [] []:=fun pins s σ H Q I h=>pairTrees_nil_walk ⟨[],H,I,.nil,h⟩
theorem yb0 {X:Cx} {pos:Pos} {k v:Expr} {ks:List (Option Expr)} {vs:List Expr} {tk tv:TE} {trs:List (TE×TE)} (hk:PE X k tk) (hv:PE X v tv) (hr:PPs X pos ks vs trs) :
    PPs X pos (some k::ks) (v::vs) ((tk,tv)::trs):=fun pins s σ H Q I h =>
  pairTrees_cons_walk (thn (hk pins s σ H _ I h) fun u s1 ⟨x,H1,I1,rx,q1⟩=>thn (hv pins s1 σ H1 _ I1 q1) fun w2 s2 ⟨y,H2,I2,ry,q2⟩ =>
    thn (hr pins s2 σ H2 _ I2 q2) fun ws s3 ⟨ps,H3,I3,rel,q3⟩=>⟨(x,y)::ps,H3,I3,.cons ⟨rx,ry⟩ rel,q3⟩)
def zc1 (kvs more:List (Key×V)):List (Key×V):=more.foldl (fun acc kv=>putK acc kv.1 kv.2) kvs
theorem KV.merge:∀ {more:List (Key×V)} {rs:List (Key×Value)} {kvs:List (Key×V)} {vs:List (Key×Value)},KV more rs→KV kvs vs→KV (zc1 kvs more) (merged vs rs):=by
  intro more rs kvs vs r
  unfold KV at r
  induction r generalizing kvs vs with
  | nil=>intro q;exact q
  | @cons p q ps qs h t ih =>
    intro r0
    have e:KV (putK kvs p.1 p.2) (stored vs q.1 q.2):=by
      have:=r0.put p.1 h.2
      rw [←h.1];exact this
    exact ih e
theorem zb8:∀(more kvs:List (Key×V)),(zc1 kvs more).length≤kvs.length+more.length
  | [],kvs=>by show kvs.length≤kvs.length+0;omega
  | p::r,kvs=>by
    have h1:=zb8 r (putK kvs p.1 p.2)
    have h2:=zd3 kvs p.1 p.2
    show (zc1 (putK kvs p.1 p.2) r).length≤_
    rw [List.length_cons];omega
theorem yc6 {P:Program} {w:World}:∀ {kvs:List (Key×V)} {ws:List (Value×Value)},VV (kvs.map fun kv=>(kV kv.1,kv.2)) ws→∃rs,Carries (yaP P w) ws rs∧KV kvs rs
  | [],_,r=>by rw [List.map_nil] at r;cases r;exact ⟨[],True.intro,.nil⟩
  | p::kvs,_,r=>by
    rw [List.map_cons] at r
    cases r with
    | @cons a b as bs h t =>
      obtain ⟨rs,c,q⟩:=yc6 (P:=P) (w:=w) t
      obtain ⟨b1,b2⟩:=b
      exact ⟨(p.1,b2)::rs,⟨ze8 h.1,rfl,c⟩,.cons ⟨rfl,h.2⟩ q⟩
def zhr (trs:List (TE×TE)):TE:=fun σ H Q=>∀p,H p=none→yeX trs σ (upd H p (.dK [])) fun ps H2=>H2 p=some (.dK [])∧∃kvs:List (Key×V),ps=kvs.map (fun kv=>(kV kv.1,kv.2))∧kvs.length≤15∧Q (.ref p) (upd H2 p (.dK (zc1 [] kvs)))
theorem ygL {X:Cx} {pos:Pos} {keys:List (Option Expr)} {values:List Expr} {trs:List (TE×TE)} (h:PPs X pos keys values trs) (hall:keys.all (·.isSome)=true) (hl:keys.length=values.length) (h0:keys≠[])
    (h15:keys.length≤15):PE X (.Dict keys values pos) (zhr trs):=by
  intro pins s σ H Q I q
  have hn:=I.hok.fresh (Nat.le_refl s.heap.objs.size)
  have I1:=I.laid (a:=s.heap.objs.size) (o:=.dK []) (h':=s.heap.push { cls:=.type "dict",data:=.dict #[] }) (t':=s.toks) (fun _ _ q=>Heap.get?_push_of_some _ q) (Nat.le_refl _) (yez s.heap I.big)
  refine wpAny_Dict_walk (knd:=yaP X.prog X.w) hall hl h0 h15 (thn (h pins _ σ _ _ I1 (q _ hn)) fun ws s2 ⟨ps,H2,I2,rel,e,kvs,ep,lk,q2⟩=>?_)
  subst ep
  obtain ⟨rs,c,rk⟩:=yc6 (P:=X.prog) (w:=X.w) rel
  obtain ⟨z,hd,vs0,r0,dd⟩:=zhx I2.hok e
  cases r0
  refine ⟨rs,c,dd,fun h' dd' hs=>⟨.ref s.heap.objs.size,_,?_,rfl,q2⟩⟩
  have hz:(zc1 [] kvs).length≤sizeLine:=by
    have h1:=zb8 kvs []
    rw [List.length_nil] at h1
    rw [sizeLine_eq];omega
  have he:∃q,h'.get? s.heap.objs.size=some q:=let ⟨q,_,_,hq,_⟩:=dd';⟨q,hq⟩
  exact zgW I2 (by rw [e];exact True.intro) hs he (zg8 hz hd (rk.merge .nil) dd')
structure M1 (X:Cx) (o:Expr) (m:Str) (apos:Pos) (e:Expr) (cpos:Pos):Prop where
  base:attributeBase o m X.env (eval o X.env)=eval o X.env
  few:((backTo cpos (starEach [e] X.env)).all (fun x=>!x.1)&&(backToKw cpos (keywordEach [] X.env)).all (fun x=>x.1.isSome)
    && decide (([e]:List Expr).length+([]:List Keyword).length+(if ([]:List Keyword).isEmpty then 0 else 1)<30))=true
  line:(apos.endLine==cpos.line)=true
  trees:backTo cpos (starEach [e] X.env)=[(false,eval e X.env)]
structure M2 (X:Cx) (o:Expr) (m:Str) (apos:Pos) (e f:Expr) (cpos:Pos):Prop where
  base:attributeBase o m X.env (eval o X.env)=eval o X.env
  few:((backTo cpos (starEach [e,f] X.env)).all (fun x=>!x.1)&&(backToKw cpos (keywordEach [] X.env)).all (fun x=>x.1.isSome)
    && decide (([e,f]:List Expr).length+([]:List Keyword).length+(if ([]:List Keyword).isEmpty then 0 else 1)<30))=true
  line:(apos.endLine==cpos.line)=true
  trees:backTo cpos (starEach [e,f] X.env)=[(false,eval e X.env),(false,eval f X.env)]
section
variable {X:Cx} {pins:List (Addr×Obj)} {σ:St} {H:Hp} {s:Shared} {a:Addr} {y d:V} {u r:Value} {o:Option V} {A:Around} {E:Value→Shared→Prop}
end
section
variable {X:Cx} {o e f:Expr} {apos cpos:Pos} {td ty tx:TE}
end
section
variable {X:Cx} {pins:List (Addr×Obj)} {σ:St} {H:Hp} {s:Shared} {a:Addr} {kvs:List (Key×V)} {A:Around} {E:Value→Shared→Prop}
end
section
variable {X:Cx} {pins:List (Addr×Obj)} {σ:St} {H:Hp} {s:Shared} {a:Addr} {y:V} {u:Value} {A:Around} {E:Value→Shared→Prop}
end
end L2
namespace L2
open PySem PySem.Spec PyProof.Rows
section
variable {X:Cx}
end
end L2
namespace L2
open PySem PySem.Spec PyProof.Rows
section
variable {κ:Type} [DecidableEq κ]
end
end L2
end
section
-- text: ExtA
namespace L2
open PySem PySem.Spec PyProof.Rows
section
variable {prog:Program} {w:World} {A:Around} {R:Result→Shared→Prop} {s:Shared}
theorem yea {elt target iter:Expr} {ifs:List Expr} {scope:Scope} {pos:Pos} {it acc:Value} {env:Env} (I:Nat→Shared→Prop)
    (turn:∀n s,I n s→wpAny (model prog w) A (pyNext it) (fun r s₁=>match r with
      | none=>R (.ok .next) s₁
      | some v=>wpAny (model prog w) A (letOwnedTupleGo target it v) (fun _ s₁'=>wpAny (model prog w) A (assign target env v) (fun _ s₂ =>
          wpAny (model prog w) A (forIn ifs true fun c r=>if r=true then do let ok ←isTrue c env (eval c env);pure (ForInStep.yield ok) else pure (ForInStep.yield r)) (fun ok s₃ =>
            if ok=true then wpAny (model prog w) A (eval elt env) (fun x s₄ =>
              wpAny (model prog w) A (call (.builtin "list.append") [acc,x]) (fun _ s₅=>∃m,m<n∧I m s₅) (fun _ _=>False) s₄) (fun _ _=>False) s₃
            else ∃m,m<n∧I m s₃) (fun _ _=>False) s₂) (fun _ _=>False) s₁') (fun _ _=>False) s₁) (fun _ _=>False) s)
    (n:Nat) (h:I n s):codeAny (model prog w) A (.compLoop (.ListComp elt [⟨target,iter,ifs,0⟩] scope pos) 0 it acc env) R s:=by
  refine codeAny_loop rfl I (fun n s hI=>?_) n h
  show wpAny _ A ((compTurn (.ListComp elt [⟨target,iter,ifs,0⟩] scope pos) 0 it acc env).onRaise (fun x=>do noteFrame x env;theTreesLotGoes x)) _ _ s
  refine wpAny_noted (wpAny_noRaise ?_)
  rw [compTurn_list]
  refine wpAny_bind (wpAny_standAt (wpAny_bind (wpAny_mono (turn n s hI) (fun r s₁ h₁=>?_) fun _ _ h'=>h')))
  cases r with
  | none=>exact wpAny_pure h₁
  | some v =>
    refine wpAny_bind (wpAny_mono h₁ (fun _ s₁' h₁'=>?_) fun _ _ h'=>h')
    refine wpAny_bind (wpAny_mono h₁' (fun _ s₂ h₂=>wpAny_bind (wpAny_mono h₂ (fun ok s₃ h₃=>?_) fun _ _ h'=>h')) fun _ _ h'=>h')
    cases ok with
    | false=>exact wpAny_pure ⟨rfl,h₃⟩
    | true =>
      exact wpAny_bind (wpAny_bind (wpAny_mono h₃ (fun x s₄ h₄=>wpAny_bind (wpAny_mono h₄ (fun _ s₅ h₅=>wpAny_pure (wpAny_pure ⟨rfl,h₅⟩)) fun _ _ h'=>h')) fun _ _ h'=>h'))
end
theorem zb3 {α:Type} {x:Str} {k:α}:∀ {l:List (Str×α)},l.lookup x=some k→(x,k)∈l:=fun h=>PySem.mem_of_lookup h
theorem zbU {scope:Scope} {env:Env} (h:∀x∈scope.names,x.2 = .free→∃c,env.cells.lookup x.1=some c) :
    ∃cl,closureFor scope env=pure cl∧(∀n c,cl.lookup n=some c→env.cells.lookup n=some c)∧(∀n,(n,NameKind.free)∈scope.names→∃c,cl.lookup n=some c):=by
  have aux:∀(names:List (Str×NameKind)) (cs:List (Str×Addr)),(∀x∈names,x.2 = .free→∃c,env.cells.lookup x.1=some c)→(∀n c,cs.lookup n=some c→env.cells.lookup n=some c)→
      ∃cl,(forIn names cs fun x r=>if (x.2==NameKind.free)=true then do let a ←cellOf env x.1;pure (ForInStep.yield ((x.1,a)::r)) else pure (ForInStep.yield r):Sem (List (Str×Addr)))=pure cl∧
        (∀n c,cl.lookup n=some c→env.cells.lookup n=some c)∧(∀n,((n,NameKind.free)∈names∨∃c,cs.lookup n=some c)→∃c,cl.lookup n=some c):=by
    intro names
    induction names with
    | nil=>intro cs _ hc;exact ⟨cs,rfl,hc,fun n h=>h.elim (fun z=>nomatch z) id⟩
    | cons x r ih =>
      intro cs hx hc
      obtain ⟨n,k⟩:=x
      have hr:∀x∈r,x.2 = .free→∃c,env.cells.lookup x.1=some c:=fun y hy=>hx y (List.mem_cons_of_mem _ hy)
      by_cases hk:k = .free
      · subst hk
        obtain ⟨c,e⟩:=hx (n,.free) List.mem_cons_self rfl
        have hc':∀m d,List.lookup m ((n,c)::cs)=some d→env.cells.lookup m=some d:=fun m d hm=>by
          rw [List.lookup_cons] at hm
          cases hb:m==n with
          | true=>rw [hb] at hm;cases hm;rw [eq_of_beq hb];exact e
          | false=>rw [hb] at hm;exact hc m d hm
        obtain ⟨cl,h1,h2,h3⟩:=ih ((n,c)::cs) hr hc'
        refine ⟨cl,?_,h2,fun m hm=>h3 m ?_⟩
        · rw [List.forIn_cons]
          have e2:cellOf env n=pure c:=by unfold cellOf;rw [e]
          simp only [beq_self_eq_true,if_true,e2]
          exact h1
        · rcases hm with hm | ⟨d,hm⟩
          · rcases List.mem_cons.mp hm with q|q
            · cases q;exact .inr ⟨c,by rw [List.lookup_cons,beq_self_eq_true]⟩
            · exact .inl q
          · refine .inr ?_
            rw [List.lookup_cons]
            cases hb:m==n with
            | true=>exact ⟨c,rfl⟩
            | false=>exact ⟨d,hm⟩
      · obtain ⟨cl,h1,h2,h3⟩:=ih cs hr hc
        refine ⟨cl,?_,h2,fun m hm=>h3 m ?_⟩
        · rw [List.forIn_cons]
          have:(k==NameKind.free)=false:=by simpa using hk
          simp only [this,Bool.false_eq_true,if_false]
          exact h1
        · rcases hm with hm|hm
          · rcases List.mem_cons.mp hm with q|q
            · cases q;exact absurd rfl hk
            · exact .inl q
          · exact .inr hm
  obtain ⟨cl,h1,h2,h3⟩:=aux scope.names [] h (fun n c z=>by simp at z)
  refine ⟨cl,?_,h2,fun n hn=>h3 n (.inl hn)⟩
  simp only [closureFor]
  rw [h1]
  rfl
theorem zby {env:Env}:∀ {names:List (Str×NameKind)} {x:Str} {k:NameKind},
    (names.map fun (n,k)=>if (k==NameKind.free&&env.scope.kind==.function&&env.kindOf n==some .cell) then (n,NameKind.cell) else (n,k)).lookup x=some k→(k = .cell∨k = .free)→
    names.lookup x=some .free∨names.lookup x=some .cell
  | [],_,_,h,_=>by simp at h
  | (n,q)::r,x,k,h,hk=>by
    have ih:=@zby env r x k
    rw [List.map_cons,List.lookup_cons] at h
    rw [List.lookup_cons]
    by_cases hc:(q==NameKind.free&&env.scope.kind==.function&&env.kindOf n==some .cell)=true
    · simp only [if_pos hc] at h
      cases hx:x==n with
      | true =>
        have:q = .free:=by
          have:=(Bool.and_eq_true_iff.mp (Bool.and_eq_true_iff.mp hc).1).1
          exact eq_of_beq this
        simp [this]
      | false=>rw [hx] at h;exact ih h hk
    · simp only [if_neg hc] at h
      cases hx:x==n with
      | true =>
        rw [hx] at h
        cases h
        rcases hk with rfl|rfl
        · exact .inr rfl
        · exact .inl rfl
      | false=>rw [hx] at h;exact ih h hk
theorem ycr {env:Env}:∀ {names:List (Str×NameKind)} {x:Str},names.lookup x=some .free→
    (names.map fun (n,k)=>if (k==NameKind.free&&env.scope.kind==.function&&env.kindOf n==some .cell) then (n,NameKind.cell) else (n,k)).lookup x=some .cell∨
    (names.map fun (n,k)=>if (k==NameKind.free&&env.scope.kind==.function&&env.kindOf n==some .cell) then (n,NameKind.cell) else (n,k)).lookup x=some .free
  | [],_,h=>by simp at h
  | (n,q)::r,x,h=>by
    have ih:=@ycr env r x
    rw [List.map_cons,List.lookup_cons]
    rw [List.lookup_cons] at h
    by_cases hc:(q==NameKind.free&&env.scope.kind==.function&&env.kindOf n==some .cell)=true
    · simp only [if_pos hc]
      cases hx:x==n with
      | true=>exact .inl rfl
      | false=>rw [hx] at h;exact ih h
    · simp only [if_neg hc]
      cases hx:x==n with
      | true=>rw [hx] at h;cases h;exact .inr rfl
      | false=>rw [hx] at h;exact ih h
def cxC (X:Cx) (N:List Str) (scope:Scope) (cl:List (Str×Addr)) (C:Addr) (fp:List Addr) (s:Shared) (H:Hp):Cx :=
  { prog:=X.prog,w:=X.w,K:=X.K,mg:=X.mg,base:=X.base,A:=X.A,N:=N,s₀:=s,H₀:=H,env:=compEnvC scope cl C X.env,outer:=X.stack,stack:=X.stack,ex:=fp,fn:=fun _=>false,calm:=X.calm,pn:=[],xe:=fun _ _=>False }
structure CSc (M:List Str) (sc:Scope) (tg cp:List Str) (ci:List Nat) (scope:Scope):Prop where
  kind:scope.kind = .function
  nocell:∀x∈scope.names,x.2≠.cell
  loc:∀x∈scope.names,x.2 = .local→scope.names.lookup x.1=some .local
  free:∀x∈scope.names,x.2 = .free→sc.names.lookup x.1=some .cell∨sc.names.lookup x.1=some .free
  cap:∀x∈cp,scope.names.lookup x=some .free
  at_:ci.map (M[·]?)=cp.map some
  nd:(tg++cp).Nodup
def capσ (k:Nat) (ci:List Nat) (σ:St):St:=List.replicate k none++ci.map fun i=>(σ[i]?).join
abbrev zg7:=Nat→Nat→List V→Hp→Prop
def zgT (wi:TI) (k:Nat) (ci:List Nat) (g:TG) (ti:TT) (te:TE):TE:=fun σ H Q=>wi σ H fun J H1=>∃W:zg7,(∃m,W 0 m [] H1)∧∀i m acc H,W i m acc H→
  (J.stop i H∧∀D,H D=none→Q (.ref D) (upd H D (.lst acc)))∨
  (J.go i H∧acc.length<sizeLine∧∃N:List V→Hp→Prop,(∀acc' H',N acc' H'→∃m',m'<m∧W (i+1) m' acc' H')∧∀x H',J.yld i H x H'→g x (capσ k ci σ) H' fun σ2 H2=>ti σ2 H2 fun b H3=>if b=true then te σ2 H3 fun v H4=>N (acc++[v]) H4 else N acc H3)
def PIfs (X:Cx) (ifs:List Expr) (t:TT):Prop :=
  ∀(pins:List (Addr×Obj)) (s:Shared) (σ:St) (H:Hp) (Q:Bool→Hp→Prop),Inv X pins σ H s→t σ H Q→
    wpAny (model X.prog X.w) X.A (forIn ifs true fun c r=>if r=true then do let ok ←isTrue c X.env (eval c X.env);pure (ForInStep.yield ok) else pure (ForInStep.yield r)) (TP X pins σ Q) X.xe s
def yhv:TT:=fun _ H Q=>Q true H
theorem yaL {X:Cx}:PIfs X [] yhv:=fun pins s σ H Q I h=>wpAny_tests_nil ⟨H,I,h⟩
theorem ybd {X:Cx} {c:Expr} {t:TT} (h:PT X c t):PIfs X [c] t:=fun pins s σ H Q I hq=>wpAny_tests_one (h pins s σ H Q I hq)
section
variable {X:Cx}
structure Gone (X:Cx) (pins:List (Addr×Obj)) (H:Hp) (s:Shared) (C:Addr):Prop where
  ns:∃m,s.heap.Ns C m
  free:H C=none
  ne:C≠X.env.locals
  ab:X.s₀.heap.objs.size≤C
  cells:∀x c,X.env.cells.lookup x=some c→c≠C
  pins:∀p∈X.pn++pins,p.1≠C
  nofs:C∉X.fs
theorem zeo {elt target iter:Expr} {ifs:List Expr} {scope:Scope} {pos:Pos} {tg cp:List Str} {ci:List Nat} {wi:TI} {g:TG} {ti:TT} {te:TE}
    {pins:List (Addr×Obj)} {s:Shared} {σ:St} {H:Hp} {Q:VK} {cl:List (Str×Addr)}
    (S:CSc X.N X.env.scope tg cp ci scope) (hcalm:X.calm=true) (hi:PI X target iter wi)
    (hcl1:∀n c,cl.lookup n=some c→X.env.cells.lookup n=some c) (hcl2:∀n,(n,NameKind.free)∈scope.names→∃c,cl.lookup n=some c)
    (hg:∀C fp s H,PG (cxC X (tg++cp) scope cl C fp s H) target g) (ht:∀C fp s H,PIfs (cxC X (tg++cp) scope cl C fp s H) ifs ti) (he:∀C fp s H,PE (cxC X (tg++cp) scope cl C fp s H) elt te)
    (I:Inv X pins σ H s) (h:zgT wi tg.length ci g ti te σ H Q) :
    wpAny (model X.prog X.w) X.A (eval iter X.env) (fun x s₁=>wpAny (model X.prog X.w) X.A (pyIter x) (fun it s₂=>wpAny (model X.prog X.w) X.A (newList []) (fun acc s₃ =>
      wpAny (model X.prog X.w) X.A (newFunctionEnv scope X.env.globals cl [] X.env.qual none .none (some X.env)) (fun cenv s₄ =>
        codeAny (model X.prog X.w) X.A (.compStart (.ListComp elt [⟨target,iter,ifs,0⟩] scope pos) 0 it acc { cenv with scope:=relabel scope X.env })
          (fun r s'=>∃D vs H',acc = .ref D∧r = .ok .next∧Inv X pins σ (upd H' D (.lst vs)) s'∧H' D=none∧Gone X pins (upd H' D (.lst vs)) s' cenv.locals∧∀D',H' D'=none→Q (.ref D') (upd H' D' (.lst vs))) s₄) X.xe s₃) X.xe s₂) X.xe s₁) X.xe s:=by
  refine thn (hi pins s σ H _ I h) fun v s1 h1=>thn h1 fun itv s2 h2=>?_
  obtain ⟨it,fp,tn,J,H2,e,I2,T,st2,f2,W,⟨m0,w0⟩,turn⟩:=h2
  subst e
  refine wpAny_newObj_type (wpAny_newFunctionEnv S.nocell (by intro y hy;simp at hy) (fun h₁ hns₁ hsb₁=>?_) S.kind)
  dsimp only at hns₁ hsb₁ ⊢
  generalize hHL:s2.heap.push { cls:=.type "list",dict:=none,data:=.seq ([]:List Value).toArray }=HL at hns₁ hsb₁ ⊢
  have hC:HL.objs.size=s2.heap.objs.size+1:=by rw [←hHL,Heap.size_push]
  generalize hD:s2.heap.objs.size=D at hC ⊢
  generalize hCC:HL.objs.size=C at hns₁ hsb₁ hC ⊢
  have hDC:D≠C:=by omega
  have old:∀b o,s2.heap.get? b=some o→h₁.get? b=some o:=fun b o e=>by
    have lt:s2.heap.objs.size≥Nat.succ b:=Heap.lt_size e
    refine hsb₁.extBut b o (show @Ne Nat b C by omega) (Heap.get?_push_of_some _ (hHL ▸ Heap.get?_push_of_some _ e))
  have hD1:h₁.get? D=some { cls:=.type "list",data:=.seq ([]:List Value).toArray 0 }:=by
    refine hsb₁.extBut D _ hDC (Heap.get?_push_of_some _ ?_)
    rw [←hHL,←hD]
    exact Heap.get?_push_size _ rfl
  have fD:H2 D=none:=I2.hok.fresh (by omega)
  have fC:H2 C=none:=I2.hok.fresh (by omega)
  let X':Cx:=cxC X (tg++cp) scope cl C fp s2 H2
  have ok':X'.Ok:=by
    refine ⟨I2.ok.mod,?_,I2.ok.glob,I2.ok.blt,?_,?_,?_,?_,I2.ok.hd,I2.ok.frames,.inl rfl,?_,I2.bs,Nat.le_trans I2.ok.bsz I2.sz,?_,?_,I2.stack,I2.stkFree⟩
    · exact S.kind
    · show s2.heap.objs.size≤C;omega
    · intro x y c hx hy;exact I2.ok.inj x y c (hcl1 x c hx) (hcl1 y c hy)
    · intro x hx
      have hx':(relabel scope X.env).names.lookup x=some .cell∨(relabel scope X.env).names.lookup x=some .free:=hx
      have q:scope.names.lookup x=some .free∨scope.names.lookup x=some .cell:=by
        rcases hx' with z|z
        · exact zby z (.inl rfl)
        · exact zby z (.inr rfl)
      rcases q with q|q
      · exact hcl2 x (zb3 q)
      · exact absurd rfl (S.nocell _ (zb3 q))
    · intro x c hx;cases hx
    · intro b hb
      obtain ⟨o,eo,_⟩:=T.obj _ _ st2 b hb
      have lt:s2.heap.objs.size≥Nat.succ b:=Heap.lt_size eo
      exact ⟨by show @Ne Nat b C;omega,fun x c hx=>(f2 b hb).2.2.2.2.1 x c (hcl1 x c hx)⟩
    · intro b o e hb
      rcases (f2 b hb).2.2.2.1 with z|z
      · exact I2.ok.noex b o e z
      · have l1:X.base.objs.size≥Nat.succ b:=Heap.lt_size e
        have l2:X.base.objs.size≤X.s₀.heap.objs.size:=I2.ok.bsz
        have l3:X.s₀.heap.objs.size≤(b:Nat):=z
        omega
    · intro b hb hbs
      rcases List.mem_cons.mp (I2.stkSub b hbs) with z|z
      · exact (f2 b hb).2.1 z
      · exact (f2 b hb).2.2.1 z
  have capLen:(capσ tg.length ci σ).length=X'.N.length:=by
    show (List.replicate tg.length none++ci.map fun i=>(σ[i]?).join).length=(tg++cp).length
    have:=congrArg List.length S.at_
    simp only [List.length_map] at this
    simp [this]
  have capLook:∀(h':Heap) (m':Str→Option Value),(∀x c o,X.env.cells.lookup x=some c→s2.heap.get? c=some o→∃sl,h'.get? c=some { o with slots:=sl })→
      ∀(i:Nat) (x:Str) (v:V),X'.N[i]?=some x→(capσ tg.length ci σ)[i]?=some (some v)→Vis X'.env.scope x→∃u,RelV v u∧Look X'.env h' m' x u:=by
    intro h' m' hcell i x v e1 e2 e3
    have e1':(tg++cp)[i]?=some x:=e1
    have e2':(List.replicate tg.length none++ci.map fun i=>(σ[i]?).join)[i]?=some (some v):=e2
    by_cases hi':i<tg.length
    · rw [List.getElem?_append_left (by simpa using hi'),List.getElem?_replicate] at e2'
      split at e2' <;> cases e2'
    · rw [List.getElem?_append_right (by simpa using hi'),List.length_replicate,List.getElem?_map] at e2'
      rw [List.getElem?_append_right (by omega)] at e1'
      cases hj:ci[i-tg.length]? with
      | none=>rw [hj] at e2';cases e2'
      | some j =>
        rw [hj] at e2'
        have e2'':(σ[j]?).join=some v:=Option.some.inj e2'
        have e4:σ[j]?=some (some v):=by
          cases q:σ[j]? with
          | none=>rw [q] at e2'';cases e2''
          | some z=>rw [q] at e2'';exact congrArg some e2''
        have e5:X.N[j]?=some x:=by
          have:=congrArg (·[i-tg.length]?) S.at_
          simp only [List.getElem?_map,hj,e1',Option.map_some] at this
          exact Option.some.inj this
        have hx:scope.names.lookup x=some .free:=S.cap x (List.mem_of_getElem? e1')
        have hk:=S.free (x,.free) (zb3 hx) rfl
        obtain ⟨m,hn,hl⟩:=I2.loc
        obtain ⟨u,r,l⟩:=hl j x v e5 e4 (.inr hk)
        refine ⟨u,r,.inr ⟨?_,?_⟩⟩
        · exact ycr hx
        · rcases l with ⟨k1,_⟩ | ⟨_,c,k2,k3⟩
          · have k1':X.env.scope.names.lookup x=some .local:=k1
            rcases hk with z|z <;> (rw [z] at k1';cases k1')
          · obtain ⟨c',hc'⟩:=hcl2 x (zb3 hx)
            have:=hcl1 x c' hc'
            rw [k2] at this;cases this
            obtain ⟨o,ho,hd⟩:=k3
            obtain ⟨sl,q⟩:=hcell x c o k2 ho
            exact ⟨c,hc',_,q,hd⟩
  have I':∀tk,Inv X' [] (capσ tg.length ci σ) H2 { s2 with heap:=h₁,toks:=tk }:=fun tk=>by
    refine ⟨ok',rfl,I2.bare,Un.kept old,⟨_,hns₁,capLook _ _ fun x c o _ e=>⟨o.slots,old c o e⟩⟩,fun x c hx=>?_,fC,fun x c hx=>I2.freeC x c (hcl1 x c hx),fun p hp=>absurd (show p∈([]:List (Addr×Obj)) from hp) (by simp),I2.hok.kept old,?_⟩
    · obtain ⟨v,o,ho,hd⟩:=I2.cell x c (hcl1 x c hx)
      exact ⟨v,o,old c o ho,hd⟩
    · exact capLen
  have recap:∀ {pl pl':List (Addr×Obj)} {σ':St} {H':Hp} {s':Shared},Inv X' (pl++pl') σ' H' s'→Inv X' pl (capσ tg.length ci σ) H' s':=fun {pl pl' σ' H' s'} J=>by
    obtain ⟨m,hn,_⟩:=J.loc
    have u:Un (frs X.stack) fp H2 H' s2.heap s'.heap:=J.base
    exact ⟨J.ok,J.os,J.bare,J.base,⟨m,hn,capLook _ _ fun x c o hx e=>u.any e (I2.freeC x c hx) fun hb=>(f2 c hb).2.2.2.2.1 x c hx rfl⟩,J.cell,J.free,J.freeC,
      fun p hp=>(List.mem_append.mp hp).elim (fun z=>J.pin p (List.mem_append_left _ z)) (fun z=>J.pin p (List.mem_append_right _ (List.mem_append_left _ z))),J.hok,capLen⟩
  have stat:∀ {H':Hp},(∀b∈fp,H' b=none)→∀b∈fp,FpOk X' [] H' b:=fun hn b hb=>by
    obtain ⟨o,eo,_⟩:=T.obj _ _ st2 b hb
    have lt:s2.heap.objs.size≥Nat.succ b:=Heap.lt_size eo
    exact ⟨hn b hb,by show @Ne Nat b C;omega,ok'.exfs b hb,.inl hb,(ok'.exf b hb).2,fun p hp=>absurd (show p∈([]:List (Addr×Obj)) from hp) (by simp)⟩
  have hDfp:D∉fp:=fun hb=>by obtain ⟨o,eo,_⟩:=T.obj _ _ st2 D hb;have lt:s2.heap.objs.size≥Nat.succ D:=Heap.lt_size eo;omega
  have hDcell:∀x c,X'.env.cells.lookup x=some c→c≠D:=fun x c hx=>by
    obtain ⟨v,o,ho,hd⟩:=I2.cell x c (hcl1 x c hx)
    have lt:s2.heap.objs.size≥Nat.succ c:=Heap.lt_size ho
    intro z;have z':@Eq Nat c D:=z;omega
  have hDfs:D∉X'.fs:=fun hb=>by
    have:D∈X.env.locals::X.fs:=I2.stkSub D hb
    rcases List.mem_cons.mp this with z|z
    · have l1:s2.heap.objs.size≥Nat.succ X.env.locals:=I2.lt
      have z':@Eq Nat D X.env.locals:=z
      omega
    · exact I2.nofs (show s2.heap.objs.size≤D by omega) z
  have fin:∀ {pl:List (Addr×Obj)} {σ':St} {H':Hp} {s':Shared} {vs:List V} {us:List Value} {k:Nat},Inv X' pl σ' H' s'→H' D=none→s'.heap.get? D=some { cls:=.type "list",data:=.seq us.toArray k }→Vals vs us→vs.length≤sizeLine→
      (∀D',H' D'=none→Q (.ref D') (upd H' D' (.lst vs)))→
      ∃D' vs H',Value.ref D = .ref D'∧(Except.ok Flow.next:Result) = .ok .next∧Inv X pins σ (upd H' D' (.lst vs)) s'∧H' D'=none∧Gone X pins (upd H' D' (.lst vs)) s' C∧∀D',H' D'=none→Q (.ref D') (upd H' D' (.lst vs)):=by
    intro pl σ' H' s' vs us k J f e r z q
    have u:Un (frs X.stack) fp H2 H' s2.heap s'.heap:=J.base
    have lt:∀ {b:Addr} {o:Obj},s2.heap.get? b=some o→b≠D:=fun {b o} eb zb=>by
      have l1:s2.heap.objs.size≥Nat.succ b:=Heap.lt_size eb
      have l2:@Eq Nat b D:=zb
      omega
    have u2:Un (frs X.stack) fp H2 (upd H' D (.lst vs)) s2.heap s'.heap :=
      ⟨u.keep,u.slot,fun b o eb n hx=>by rw [yag (lt eb)];exact u.free b o eb n hx,u.there,
       fun b xs eb=>by rw [yag (zaf eb fD)];exact u.tups b xs eb,fun b o uu eb=>by rw [yag (zaf eb fD)];exact u.frzs b o uu eb,fun b ps eb=>by rw [yag (zaf eb fD)];exact u.tbls b ps eb⟩
    have hok2:HOk X.prog X.w (upd H' D (.lst vs)) s'.heap:=fun b o eb=>by
      by_cases hb:b=D
      · subst hb
        rw [zab] at eb;cases eb
        exact ⟨z,us,k,r,e⟩
      · rw [yag hb] at eb
        refine (J.hok b o eb).stay (fun _ _ _ q=>q) (fun c hc=>?_) fun c xs hc=>?_
        · rw [yag (fun zz=>by rw [zz,f] at hc;cases hc)];exact hc
        · rw [yag (fun zz=>by rw [zz,f] at hc;cases hc)];exact hc
    refine ⟨D,vs,H',rfl,rfl,I2.call' (ch:=fp) J.os u2 hok2 J.bare ?_,f,⟨?_,?_,?_,?_,?_,?_,?_⟩,q⟩
    · intro b hb
      obtain ⟨_,a2,_,a4,a5,a6⟩:=f2 b hb
      exact ⟨a4,a2,a5,a6⟩
    · obtain ⟨m,hn,_⟩:=J.loc;exact ⟨m,hn⟩
    · rw [yag (Ne.symm hDC)];exact J.free
    · have l1:s2.heap.objs.size≥Nat.succ X.env.locals:=I2.lt
      intro zz;have zz':@Eq Nat C X.env.locals:=zz;omega
    · have l1:X.s₀.heap.objs.size≤s2.heap.objs.size:=I2.sz
      show X.s₀.heap.objs.size≤C;omega
    · intro x c hx zz
      obtain ⟨v,o,ho,hd⟩:=I2.cell x c hx
      have l1:s2.heap.objs.size≥Nat.succ c:=Heap.lt_size ho
      have zz':@Eq Nat c C:=zz
      omega
    · intro p hp zz
      have l1:s2.heap.objs.size≥Nat.succ p.1:=Heap.lt_size (I2.pin p hp).1
      have zz':@Eq Nat p.1 C:=zz
      omega
    · exact I2.nofs (show s2.heap.objs.size≤C by omega)
  have loop:∀tk,codeAny (model X.prog X.w) X.A (.compLoop (.ListComp elt [⟨target,iter,ifs,0⟩] scope pos) 0 (.ref it) (.ref D) (compEnvC scope cl C X.env))
      (fun r s'=>∃D' vs H',Value.ref D = .ref D'∧r = .ok .next∧Inv X pins σ (upd H' D' (.lst vs)) s'∧H' D'=none∧Gone X pins (upd H' D' (.lst vs)) s' C∧∀D',H' D'=none→Q (.ref D') (upd H' D' (.lst vs))) { s2 with heap:=h₁,toks:=tk }:=by
    intro tk
    refine yea (fun n s'=>∃i vs us k H',Inv X' [] (capσ tg.length ci σ) H' s'∧tn i s'.heap∧(∀b∈fp,H' b=none)∧H' D=none∧s'.heap.get? D=some { cls:=.type "list",data:=.seq us.toArray k }∧Vals vs us∧vs.length≤sizeLine∧W i n vs H') ?_ m0
      ⟨0,[],[],0,H2,I' tk,T.keep _ _ _ st2 (fun b hb o e=>old b o e),fun b hb=>(f2 b hb).1,fD,hD1,.nil,Nat.zero_le _,w0⟩
    rintro n s3 ⟨i,vs,us,k,H3,I3,st3,fr3,fD3,hD3,rv3,z3,w3⟩
    let pD:List (Addr×Obj):=[(D,{ cls:=.type "list",data:=.seq us.toArray k })]
    have pinD:∀ {σ':St} {H':Hp} {s':Shared},Inv X' [] σ' H' s'→H' D=none→s'.heap.get? D=some { cls:=.type "list",data:=.seq us.toArray k }→Inv X' pD σ' H' s':=fun {σ' H' s'} J f e =>
      J.pins_of fun p hp=>by
        have:p=(D,{ cls:=.type "list",data:=.seq us.toArray k }):=by simpa [pD] using hp
        subst this
        exact ⟨e,f,hDC,hDfs,fun v z=>by cases z⟩
    have statD:∀ {H':Hp},(∀b∈fp,H' b=none)→∀b∈fp,FpOk X' pD H' b:=fun hn b hb=>by
      obtain ⟨a1,a2,a3,a4,a5,_⟩:=stat hn b hb
      refine ⟨a1,a2,a3,a4,a5,fun p hp=>?_⟩
      have:p=(D,{ cls:=.type "list",data:=.seq us.toArray k }):=by
        have hp':p∈([]:List (Addr×Obj))++pD:=hp
        simpa [pD] using hp'
      subst this
      exact fun z=>hDfp (by rw [show D=b from z];exact hb)
    rcases turn i n vs H3 w3 with ⟨stop,qn⟩ | ⟨go,zl,N,hN,step⟩
    · refine thn (T.done X' rfl rfl rfl hcalm i pD s3 _ H3 _ (pinD I3 fD3 hD3) (statD fr3) st3 stop) fun r s4 ⟨hr,I4⟩=>?_
      subst hr
      have eD:s4.heap.get? D=some { cls:=.type "list",data:=.seq us.toArray k }:=(I4.pin (D,_) (by simp [pD])).1
      exact fin I4 fD3 eD rv3 z3 qn
    · refine thn (T.item X' rfl rfl rfl hcalm i pD s3 _ H3 _ (pinD I3 fD3 hD3) (statD fr3) st3 go) fun r s4 ⟨u,hr,h4⟩=>?_
      subst hr
      refine thn h4 fun _ s5 ⟨x,H5,I5,r5,y5,st5,fr5⟩=>?_
      have I5':=I5.pinned (statD fr5) (T.obj _ _ st5)
      refine thn (hg C fp s2 H2 _ s5 _ H5 x u _ I5' r5 (step x H5 y5)) fun _ s6 ⟨σ6,H6,I6,q6⟩=>?_
      refine thn (ht C fp s2 H2 _ s6 σ6 H6 _ I6 q6) fun b s7 ⟨H7,I7,q7⟩=>?_
      have again:∀ {s8:Shared} {H8:Hp},Inv X' (pD++zdB fp s5.heap) σ6 H8 s8→Inv X' pD (capσ tg.length ci σ) H8 s8∧tn (i+1) s8.heap∧(∀b∈fp,H8 b=none)∧H8 D=none∧s8.heap.get? D=some { cls:=.type "list",data:=.seq us.toArray k }:=fun {s8 H8} I8=>by
        have e8:=I8.pin (D,_) (List.mem_append_right _ (List.mem_append_left _ (by simp [pD] <;> rfl)))
        refine ⟨?_,T.keep _ _ _ st5 fun b hb o e=>(I8.pin (b,o) (List.mem_append_right _ (List.mem_append_right _ (zb4 hb e)))).1,fun b hb=>?_,e8.2.1,e8.1⟩
        · exact recap I8
        · obtain ⟨o,e,d⟩:=T.obj _ _ st5 b hb
          exact (I8.pin (b,o) (List.mem_append_right _ (List.mem_append_right _ (zb4 hb e)))).2.1
      cases b with
      | false =>
        obtain ⟨m',hm,w7⟩:=hN _ _ q7
        obtain ⟨J,t7,f7,d7,e7⟩:=again I7
        exact ⟨m',hm,i+1,vs,us,k,H7,J.pins_of (fun p hp=>nomatch hp),t7,f7,d7,e7,rv3,z3,w7⟩
      | true =>
        simp only [if_true] at q7 ⊢
        refine thn (he C fp s2 H2 _ s7 σ6 H7 _ I7 q7) fun y s8 ⟨yv,H8,I8,r8,q8⟩=>?_
        obtain ⟨m',hm,w8⟩:=hN _ _ q8
        obtain ⟨J,t8,f8,d8,e8⟩:=again I8
        refine call_meets F.slot_list_append ⟨_,e8,rfl⟩ F.entry_list_append (F.args_list_append_2 _ _) (PySem.list_append D us.toArray k y (by rw [List.size_toArray,←rv3.length];exact z3)) ⟨e8,?_⟩
        have q:=PySem.IsL.update e8 (·.push y)
        have J0:Inv X' [] (capσ tg.length ci σ) H8 s8:=J.pins_of (fun p hp=>nomatch hp)
        refine ⟨m',hm,i+1,vs++[yv],us++[y],_,H8,J0.turned (it:=D) (t':=s8.toks) (fun b o hb hu=>(Heap.get?_update_other s8.heap _ (Ne.symm hb)).trans hu) d8 hDC (.inr (by show s2.heap.objs.size≤D;omega)) hDcell (fun p hp=>absurd (show p∈([]:List (Addr×Obj)) from hp) (by simp)),?_,f8,d8,by simpa using q,rv3.append (.cons r8 .nil),by simp;omega,w8⟩
        exact T.keep _ _ _ t8 fun b hb o hu=>(Heap.get?_update_other s8.heap _ (fun z=>hDfp (by rw [z];exact hb))).trans hu
  exact codeAny_compStart_list (loop _) (T.self X.A 0 _ _ _ (T.keep _ _ _ st2 (fun b hb o e=>old b o e)) (loop _))
theorem Gone.turned {pins:List (Addr×Obj)} {σ:St} {H:Hp} {s:Shared} {C:Addr} {h':Heap} (G:Gone X pins H s C) (I:Inv X pins σ H s) (hs:Heap.SameBut C s.heap h'):Inv X pins σ H { s with heap:=h' } :=
  I.turned (t':=s.toks) (fun b o hb e=>hs.extBut b o hb e) G.free G.ne (.inr G.ab) G.cells G.pins
theorem yaM {elt target iter:Expr} {ifs:List Expr} {scope:Scope} {pos:Pos} {tg cp:List Str} {ci:List Nat} {wi:TI} {g:TG} {ti:TT} {te:TE}
    (S:CSc X.N X.env.scope tg cp ci scope) (hcalm:X.calm=true) (hi:PI X target iter wi)
    (hg:∀cl C fp s H,PG (cxC X (tg++cp) scope cl C fp s H) target g) (ht:∀cl C fp s H,PIfs (cxC X (tg++cp) scope cl C fp s H) ifs ti) (he:∀cl C fp s H,PE (cxC X (tg++cp) scope cl C fp s H) elt te)
    (hs:∀x,foldedSetIterable iter X.env x=pure x:=by intro _;rfl):PE X (.ListComp elt [⟨target,iter,ifs,0⟩] scope pos) (zgT wi tg.length ci g ti te):=by
  intro pins s σ H Q I h
  obtain ⟨cl,hclos,h1,h2⟩:=zbU (scope:=scope) (env:=X.env) fun x hx hf=>I.ok.has x.1 (S.free x hx hf)
  rw [eval_ListComp]
  refine wpAny_comprehension_free (use:=none) rfl hs hclos S.kind S.loc (thn (zeo S hcalm hi h1 h2 (hg cl) (ht cl) (he cl) I h) fun x s1 q1=>thn q1 fun it s2 q2=>thn q2 fun acc s3 q3=>thn q3 fun cenv s4 q4=>codeAny_mono q4 fun r s' q=>?_)
  obtain ⟨D,vs,H',e1,e2,I',f,G,q⟩:=q
  subst e1 e2
  obtain ⟨m,hn⟩:=G.ns
  exact ⟨m,hn,fun h' hsb=>⟨.ref D,_,G.turned I' hsb,rfl,q D f⟩⟩
theorem zbA {i:Nat} {y:Str} {py:Pos} {elt target iter:Expr} {ifs:List Expr} {scope:Scope} {pos spos:Pos} {tg cp:List Str} {ci:List Nat} {wi:TI} {g:TG} {ti:TT} {te:TE}
    (hN:X.N.Nodup) (hi':X.N[i]?=some y) (hy:Loc X.env.scope y)
    (S:CSc X.N X.env.scope tg cp ci scope) (hcalm:X.calm=true) (hi:PI X target iter wi)
    (hg:∀cl C fp s H,PG (cxC X (tg++cp) scope cl C fp s H) target g) (ht:∀cl C fp s H,PIfs (cxC X (tg++cp) scope cl C fp s H) ifs ti) (he:∀cl C fp s H,PE (cxC X (tg++cp) scope cl C fp s H) elt te)
    (hsw:swapsWith (.ListComp elt [⟨target,iter,ifs,0⟩] scope pos) (some (.Name y py)) spos.line X.env=pure true:=by rfl)
    (hs:∀x,foldedSetIterable iter X.env x=pure x:=by intro _;rfl) (hf:X.fn y=true∨X.env.scope.names.lookup y=some .local:=by first|exact .inl rfl|exact .inr rfl|assumption) :
    PS X (.Assign [.Name y py] (.ListComp elt [⟨target,iter,ifs,0⟩] scope pos) spos) (tAsg (zgT wi tg.length ci g ti te) (zau i)):=by
  intro pins s σ H D I h
  obtain ⟨cl,hclos,h1,h2⟩:=zbU (scope:=scope) (env:=X.env) fun x hx hf=>I.ok.has x.1 (S.free x hx hf)
  rw [exec_Assign_Name_used _ _ _ _ hsw]
  refine wpAny_bind (wpAny_standAt (wpAny_bind ?_))
  show wpAny _ X.A (do let _ ←comprehension (.ListComp elt [⟨target,iter,ifs,0⟩] scope pos) scope X.env _ (newList []) false (eval iter X.env) (some (assign (.Name y py) X.env))) _ _ s
  refine wpAny_bind (wpAny_mono (wpAny_comprehension_free (use:=some (assign (.Name y py) X.env)) (Q:=fun _ s'=>SP X pins D .next s') rfl hs hclos S.kind S.loc
    (thn (zeo S hcalm hi h1 h2 (hg cl) (ht cl) (he cl) I h) fun x s1 q1=>thn q1 fun it s2 q2=>thn q2 fun acc s3 q3=>thn q3 fun cenv s4 q4=>codeAny_mono q4 fun r s' q=>?_)) (fun _ s' hq=>wpAny_pure (wpAny_pure hq)) fun _ _ e=>e)
  obtain ⟨D',vs,H',e1,e2,I',f,G,q⟩:=q
  subst e1 e2
  show wpAny _ X.A (assign (.Name y py) X.env (.ref D')) _ _ _
  obtain ⟨m,o,es,ep,ho,hd,hk⟩:=G.ns
  have pin:Inv X ((cenv.locals,o)::pins) σ (upd H' D' (.lst vs)) s':=I'.pins_of fun p hp=>by
    rcases List.mem_cons.mp hp with z|z
    · subst z
      exact ⟨ho,G.free,G.ne,G.nofs,fun v z=>by rw [hd] at z;cases z⟩
    · exact I'.pin p (List.mem_append_right _ z)
  refine wpAny_assign_Name (zbj (v:=V.ref D') pin hN hi' hy (show RelV (.ref D') (.ref D') from rfl) (fun s2 I2=>?_) hf)
  have I3:Inv X pins (σ.set i (some (.ref D'))) (upd H' D' (.lst vs)) s2:=I2.pins_of fun p hp=>I2.pin p (List.mem_append_right _ (List.mem_cons_of_mem _ hp))
  have e2:=I2.pin (cenv.locals,o) (List.mem_append_right _ List.mem_cons_self)
  have G2:Gone X pins (upd H' D' (.lst vs)) s2 cenv.locals:=⟨⟨m,o,es,ep,e2.1,hd,hk⟩,G.free,G.ne,G.ab,G.cells,G.pins,G.nofs⟩
  exact ⟨m,⟨o,es,ep,e2.1,hd,hk⟩,fun h' hsb=>⟨_,_,G2.turned I3 hsb,q D' f⟩⟩
end
end L2
end
section
-- text: ExtB
namespace L2
open PySem PySem.Spec PyProof.Rows
structure zdn (P:Program) (w:World) (A:Around) (a:Addr) (dep:List Addr) (ok:Nat→Heap→Prop) (val:Nat→Option Value):Prop where
  mem:a∈dep
  obj:∀k h,ok k h→∃o,h.get? a=some o∧(∀v,o.data≠.cell v)∧o.cls≠.type "zip"∧o.cls≠.type "enumerate"∧o.cls≠.type "tuple"
  keep:∀k h h',ok k h→(∀b∈dep,∀o,h.get? b=some o→h'.get? b=some o)→ok k h'
  item:∀k x (s:Shared) (Q:Value→Shared→Prop) (E:Value→Shared→Prop),ok k s.heap→val k=some x→(∀h',ok (k+1) h'→Heap.SameBut a s.heap h'→Q x { s with heap:=h' })→
    wpAny (model P w) A (Builtin.SmallTypes.nextOf (.ref a)) Q E s
  stop:∀k (s:Shared) (Q:Value→Shared→Prop) (E:Value→Shared→Prop),ok k s.heap→val k=none→
    (∀h' e,Heap.ExtBut a s.heap h'→(∃o,h'.get? e=some o∧o.cls = .type "StopIteration")→E (.ref e) { s with heap:=h' })→wpAny (model P w) A (Builtin.SmallTypes.nextOf (.ref a)) Q E s
section
variable {P:Program} {w:World} {A:Around}
theorem zgK {a l:Addr} {xs:Array Value} (hh:A.handled=none) (ne:l≠a):zdn P w A a [a,l] (fun k h=>h.IsListIter a l k∧h.IsList l xs) (fun k=>xs[k]?) where
  mem:=List.mem_cons_self
  obj:=fun k h z=>by
    obtain ⟨⟨o,e,c,d⟩,_⟩:=z
    exact ⟨o,e,fun v q=>(by rw [d] at q;cases q),(by rw [c];decide),(by rw [c];decide),(by rw [c];decide)⟩
  keep:=fun k h h' z q=>⟨z.1.at fun o e=>q a (by simp) o e,z.2.at fun o e=>q l (by simp) o e⟩
  item:=fun k x s Q E z e q=>wpAny_nextOf_list_item z.1 z.2 e fun h' h1 h2=>q h' ⟨h1,z.2.extBut h2.extBut ne⟩ h2
  stop:=fun k s Q E z e q=>wpAny_nextOf_list_end hh z.1 z.2 e q
theorem zc2 {h h':Heap} {a l:Addr} {k:Nat} (x:h.IsTupleIter a l k) (e:∀o,h.get? a=some o→h'.get? a=some o):h'.IsTupleIter a l k:=let ⟨o,ho,r⟩:=x;⟨o,e _ ho,r⟩
theorem ygs {h h':Heap} {a:Addr} {xs:Array Value} (x:h.IsTuple a xs) (e:∀o,h.get? a=some o→h'.get? a=some o):h'.IsTuple a xs:=let ⟨o,ho,r⟩:=x;⟨o,e _ ho,r⟩
theorem yhb {a l:Addr} {xs:Array Value} (hh:A.handled=none) (ne:l≠a):zdn P w A a [a,l] (fun k h=>h.IsTupleIter a l k∧h.IsTuple l xs) (fun k=>xs[k]?) where
  mem:=List.mem_cons_self
  obj:=fun k h z=>by
    obtain ⟨⟨o,e,c,d⟩,_⟩:=z
    exact ⟨o,e,fun v q=>(by rw [d] at q;cases q),(by rw [c];decide),(by rw [c];decide),(by rw [c];decide)⟩
  keep:=fun k h h' z q=>⟨zc2 z.1 fun o e=>q a (by simp) o e,ygs z.2 fun o e=>q l (by simp) o e⟩
  item:=fun k x s Q E z e q=>by
    obtain ⟨o,ho,hc,hd⟩:=id z.1
    obtain ⟨ol,hol,_,nl,hdl⟩:=id z.2
    unfold Builtin.SmallTypes.nextOf
    refine wpAny_bind (wpAny_callSpecial?_slot (name:=Str.ofString "__next__") z.1.typeIs F.slot_tuple_iterator_next (wpAny_call_entry F.slot_tuple_iterator_next z.1.typeIs F.entry_tuple_iterator_next ?_ (F.args_tuple_iterator_next_1 _)))
    show wpAny _ _ (field (.ref a) 0 >>= _) _ _ s;refine wpAny_bind (wpAny_field ho hd (x:=.ref l) rfl ?_)
    show wpAny _ _ (if (Value.ref l==Value.none)=true then _ else _) _ _ s;rw [if_neg (show ¬ ((Value.ref l==Value.none)=true) from Bool.false_ne_true)]
    show wpAny _ _ (field (.ref a) 1 >>= _) _ _ s;refine wpAny_bind (wpAny_field ho hd (x:=.int k 0) rfl ?_)
    show wpAny _ _ (seqItems? (.ref l) >>= _) _ _ s;refine wpAny_bind (wpAny_seqItems hol hdl ?_)
    simp only [Int.toNat_natCast,e]
    refine wpAny_bind (wpAny_setField ho hd (by simp) (wpAny_pure ⟨x,rfl,wpAny_pure (q _ ⟨?_,z.2.extBut (Heap.SameBut.update ..).extBut ne⟩ (Heap.SameBut.update ..))⟩))
    exact ⟨_,Heap.get?_update_self _ ho (Obj.isFreed_of_fields (Obj.data_mapFields hd _)),(Obj.cls_mapFields ..).trans hc,by rw [Obj.data_mapFields hd];simp [rawInt]⟩
  stop:=fun k s Q E z e q=>by
    obtain ⟨o,ho,hc,hd⟩:=id z.1
    obtain ⟨ol,hol,_,nl,hdl⟩:=id z.2
    unfold Builtin.SmallTypes.nextOf
    refine wpAny_bind (wpAny_callSpecial?_slot (name:=Str.ofString "__next__") z.1.typeIs F.slot_tuple_iterator_next (wpAny_call_entry F.slot_tuple_iterator_next z.1.typeIs F.entry_tuple_iterator_next ?_ (F.args_tuple_iterator_next_1 _)))
    show wpAny _ _ (field (.ref a) 0 >>= _) _ _ s;refine wpAny_bind (wpAny_field ho hd (x:=.ref l) rfl ?_)
    show wpAny _ _ (if (Value.ref l==Value.none)=true then _ else _) _ _ s;rw [if_neg (show ¬ ((Value.ref l==Value.none)=true) from Bool.false_ne_true)]
    show wpAny _ _ (field (.ref a) 1 >>= _) _ _ s;refine wpAny_bind (wpAny_field ho hd (x:=.int k 0) rfl ?_)
    show wpAny _ _ (seqItems? (.ref l) >>= _) _ _ s;refine wpAny_bind (wpAny_seqItems hol hdl ?_)
    simp only [Int.toNat_natCast,e]
    refine wpAny_bind (wpAny_rule (wpAny_bind (wpAny_setField ho hd (by simp) ?_)))
    show wpAny _ _ (newExc (.type "StopIteration") [] >>= _) _ _ _;refine wpAny_bind ?_
    simp only [newExc,newTuple]
    refine wpAny_bind (wpAny_newObj_type ?_ (by size_fits))
    refine wpAny_bind (m:=firstArgMember _ _) (wpAny_of_eq (a:=Value.none) (by first|rfl|(simp only [firstArgMember];rfl)) (wpAny_newObj_type ?_ (by size_fits)))
    simp only [raiseNew]
    refine wpAny_bind (wpAny_handled ?_)
    first|rw [show A.in1.handled=none from hh]|rw [hh]
    exact wpAny_bind (wpAny_pure (wpAny_throw (q _ _ (((Heap.SameBut.update ..).extBut.push _).push _) ⟨_,Heap.get?_push_size _ rfl,rfl⟩)))
end
structure ZAp (z TI TO:Addr) (d1 d2:List Addr) (i1 i2:Addr):Prop where
  a1:TI≠z
  a2:TO≠z
  a3:TI≠TO
  b1:z∉d1
  b2:z∉d2
  b3:TO∉d1
  b4:TO∉d2
  b5:TI≠i1
  b6:TI≠i2
  c1:i1∉d2
  c2:i2∉d1
section
variable {P:Program} {w:World} {A:Around} {s:Shared} {z TI TO i1 i2:Addr} {d1 d2:List Addr} {ok1 ok2:Nat→Heap→Prop} {v1 v2:Nat→Option Value}
theorem zdn.ext (S:zdn P w A i1 d1 ok1 v1) {k:Nat} {h h':Heap} {b:Addr} (o:ok1 k h) (e:Heap.ExtBut b h h') (n:b∉d1):ok1 k h':=S.keep k h h' o fun c hc ob eb=>e c ob (fun q=>n (q ▸ hc)) eb
theorem yfz {k:Nat} {x y p q:Value} {Q:Value→Shared→Prop} {E:Value→Shared→Prop} (D:ZAp z TI TO d1 d2 i1 i2) (S1:zdn P w A i1 d1 ok1 v1) (S2:zdn P w A i2 d2 ok2 v2)
    (hz:IsZip s.heap z TI TO .none) (hI:IsPair s.heap TI (.ref i1) (.ref i2)) (hO:IsPair s.heap TO p q) (o1:ok1 k s.heap) (o2:ok2 k s.heap) (e1:v1 k=some x) (e2:v2 k=some y)
    (hQ:∀g,IsZip g z TI TO (rawInt s.heap.objs.size)→IsPair g TO x y→ok1 (k+1) g→ok2 (k+1) g→IsPair g s.heap.objs.size x y→(∀c o,c≠z→c≠TO→c≠i1→c≠i2→s.heap.get? c=some o→g.get? c=some o)→Q (.ref s.heap.objs.size) { s with heap:=g }) :
    wpAny (model P w) A (Builtin.«zip.__next__» ⟨[.ref z],[]⟩) (fun fin s'=>∃v,fin = .done (.ret v)∧Q v s') E s:=by
  have n1z:i1≠z:=fun e=>D.b1 (e ▸ S1.mem)
  have n2z:i2≠z:=fun e=>D.b2 (e ▸ S2.mem)
  have n1O:i1≠TO:=fun e=>D.b3 (e ▸ S1.mem)
  have n2O:i2≠TO:=fun e=>D.b4 (e ▸ S2.mem)
  show wpAny _ _ (field (.ref z) 2 >>= _) _ E s;refine wpAny_bind (wpAny_field hz rfl (x:=.bool false) rfl ?_)
  show wpAny _ _ (field (.ref z) 3 >>= _) _ E s;refine wpAny_bind (wpAny_field hz rfl (x:=.ref TI) rfl (wpAny_bind (wpAny_seqItems hI rfl ?_)))
  show wpAny _ _ (Builtin.SmallTypes.ownedTupleIsFree (.ref z) >>= _) _ E s;refine wpAny_bind ?_
  unfold Builtin.SmallTypes.ownedTupleIsFree
  refine wpAny_bind (wpAny_field hz rfl (x:=.none) rfl (wpAny_pure ?_))
  simp only [if_true]
  refine wpAny_bind (wpAny_rule (wpAny_bind (wpAny_field hz rfl (x:=.ref TO) rfl (wpAny_bind (wpAny_setField_rec hz (by simp) fun g1 hz1 t1=>?_)))))
  replace hz1:IsZip g1 z TI TO .ellipsis:=hz1
  refine wpAny_bind ?_
  simp only [List.zipIdx_cons,List.zipIdx_nil,List.forIn_cons,List.forIn_nil]
  refine wpAny_bind (wpAny_bind (wpAny_onRaise ?_));show wpAny _ _ (Builtin.SmallTypes.nextOf (.ref i1) >>= _) _ _ _;refine (wpAny_bind (S1.item k x _ _ _ (S1.ext o1 t1.extBut D.b1) e1 fun g2 o12 t2=>wpAny_pure ?_))
  have hO2:IsPair g2 TO p q:=t2.extBut _ _ (Ne.symm n1O) (t1.extBut _ _ D.a2 hO)
  refine wpAny_bind (wpAny_seqItems hO2 rfl (wpAny_bind (wpAny_updateSeq_pair hO2 fun g3 hO3 t3=>?_)))
  replace hO3:IsPair g3 TO x q:=hO3
  refine wpAny_bind (wpAny_letGo (wpAny_pure ?_))
  have o23:ok2 k g3:=S2.ext (S2.ext (S2.ext o2 t1.extBut D.b2) t2.extBut D.c1) t3.extBut D.b4
  refine wpAny_bind (wpAny_bind (wpAny_onRaise ?_));show wpAny _ _ (Builtin.SmallTypes.nextOf (.ref i2) >>= _) _ _ _;refine (wpAny_bind (S2.item k y _ _ _ o23 e2 fun g4 o24 t4=>wpAny_pure ?_))
  have hO4:IsPair g4 TO x q:=t4.extBut _ _ (Ne.symm n2O) hO3
  refine wpAny_bind (wpAny_seqItems hO4 rfl (wpAny_bind (wpAny_updateSeq_pair hO4 fun g5 hO5 t5=>?_)))
  replace hO5:IsPair g5 TO x y:=hO5
  refine wpAny_bind (wpAny_letGo (wpAny_pure (wpAny_pure ?_)))
  refine wpAny_bind (wpAny_seqItems hO5 rfl (wpAny_bind (wpAny_newTuple ?_)))
  have sz:g5.objs.size=s.heap.objs.size:=by rw [t5.1,t4.1,t3.1,t2.1,t1.1]
  have hz5:IsZip g5 z TI TO .ellipsis:=t5.extBut _ _ (Ne.symm D.a2) (t4.extBut _ _ (Ne.symm n2z) (t3.extBut _ _ (Ne.symm D.a2) (t2.extBut _ _ (Ne.symm n1z) hz1)))
  have k5:∀c o,c≠z→c≠TO→c≠i1→c≠i2→s.heap.get? c=some o→g5.get? c=some o:=fun c o m1 m2 m3 m4 e=>t5.extBut _ _ m2 (t4.extBut _ _ m4 (t3.extBut _ _ m2 (t2.extBut _ _ m3 (t1.extBut _ _ m1 e))))
  have o15:ok1 (k+1) g5:=S1.ext (S1.ext (S1.ext o12 t3.extBut D.b3) t4.extBut D.c2) t5.extBut D.b3
  have o25:ok2 (k+1) g5:=S2.ext o24 t5.extBut D.b4
  have zlt:z<g5.objs.size:=Heap.lt_size hz5
  show wpAny _ _ (Builtin.SmallTypes.ownedTupleHandOut (.ref z) (.ref g5.objs.size) >>= _) _ E _;refine wpAny_bind ?_
  unfold Builtin.SmallTypes.ownedTupleHandOut
  have hz6:IsZip (g5.push { cls:=.type "tuple",data:=.seq #[x,y] }) z TI TO .ellipsis:=Heap.get?_push_of_some _ hz5
  refine wpAny_bind (wpAny_setField_rec hz6 (by simp) fun g7 hz7 t7=>?_)
  replace hz7:IsZip g7 z TI TO (rawInt g5.objs.size):=hz7
  refine wpAny_setField_rec hz7 (by simp) fun g8 hz8 t8=>?_
  replace hz8:IsZip g8 z TI TO (rawInt g5.objs.size):=hz8
  have up:∀c o,c≠z→g5.get? c=some o→g8.get? c=some o:=fun c o m e=>t8.extBut _ _ m (t7.extBut _ _ m (Heap.get?_push_of_some _ e))
  have hT8:IsPair g8 g5.objs.size x y:=t8.extBut _ _ (Nat.ne_of_gt zlt) (t7.extBut _ _ (Nat.ne_of_gt zlt) (Heap.get?_push_size _ rfl))
  rw [sz] at hz8 hT8
  refine wpAny_pure ⟨_,rfl,?_⟩
  show Q (.ref g5.objs.size) _
  rw [sz]
  exact hQ g8 hz8 (up _ _ D.a2 hO5) (S1.keep _ _ _ o15 fun b hb o e=>up b o (fun q=>D.b1 (q ▸ hb)) e) (S2.keep _ _ _ o25 fun b hb o e=>up b o (fun q=>D.b2 (q ▸ hb)) e) hT8 fun c o m1 m2 m3 m4 e=>up c o m1 (k5 c o m1 m2 m3 m4 e)
theorem yge {k:Nat} {p q:Value} {Q:Fin→Shared→Prop} {E:Value→Shared→Prop} (D:ZAp z TI TO d1 d2 i1 i2) (S1:zdn P w A i1 d1 ok1 v1) (S2:zdn P w A i2 d2 ok2 v2)
    (hz:IsZip s.heap z TI TO .none) (hI:IsPair s.heap TI (.ref i1) (.ref i2)) (hO:IsPair s.heap TO p q) (o1:ok1 k s.heap) (o2:ok2 k s.heap) (he:v1 k=none∨v2 k=none)
    (hE:∀g e,(∀c o,c≠z→c≠TO→c≠i1→c≠i2→s.heap.get? c=some o→g.get? c=some o)→(∃o,g.get? e=some o∧o.cls = .type "StopIteration")→E (.ref e) { s with heap:=g }) :
    wpAny (model P w) A (Builtin.«zip.__next__» ⟨[.ref z],[]⟩) Q E s:=by
  have n1z:i1≠z:=fun e=>D.b1 (e ▸ S1.mem)
  have n2z:i2≠z:=fun e=>D.b2 (e ▸ S2.mem)
  have n1O:i1≠TO:=fun e=>D.b3 (e ▸ S1.mem)
  show wpAny _ _ (field (.ref z) 2 >>= _) _ E s;refine wpAny_bind (wpAny_field hz rfl (x:=.bool false) rfl ?_)
  show wpAny _ _ (field (.ref z) 3 >>= _) _ E s;refine wpAny_bind (wpAny_field hz rfl (x:=.ref TI) rfl (wpAny_bind (wpAny_seqItems hI rfl ?_)))
  show wpAny _ _ (Builtin.SmallTypes.ownedTupleIsFree (.ref z) >>= _) _ E s;refine wpAny_bind ?_
  unfold Builtin.SmallTypes.ownedTupleIsFree
  refine wpAny_bind (wpAny_field hz rfl (x:=.none) rfl (wpAny_pure ?_))
  simp only [if_true]
  refine wpAny_bind (wpAny_rule (wpAny_bind (wpAny_field hz rfl (x:=.ref TO) rfl (wpAny_bind (wpAny_setField_rec hz (by simp) fun g1 hz1 t1=>?_)))))
  replace hz1:IsZip g1 z TI TO .ellipsis:=hz1
  refine wpAny_bind ?_
  simp only [List.zipIdx_cons,List.zipIdx_nil,List.forIn_cons,List.forIn_nil]
  have o11:ok1 k g1:=S1.ext o1 t1.extBut D.b1
  cases e1:v1 k with
  | none =>
    refine wpAny_bind (wpAny_bind (wpAny_onRaise ?_));show wpAny _ _ (Builtin.SmallTypes.nextOf (.ref i1) >>= _) _ _ _;refine (wpAny_bind (S1.stop k _ _ _ o11 e1 fun g2 e t2 ⟨oe,he',ce⟩=>?_))
    have hz2:IsZip g2 z TI TO .ellipsis:=t2 _ _ (Ne.symm n1z) hz1
    have ez:e≠z:=fun q=>by subst q;rw [hz2] at he';cases he';simp at ce
    exact wpAny_setField_rec hz2 (by simp) fun g3 _ t3=>hE g3 e (fun c o m1 _ m3 _ x=>t3.extBut _ _ m1 (t2 _ _ m3 (t1.extBut _ _ m1 x))) ⟨oe,t3.extBut _ _ ez he',ce⟩
  | some x =>
    have e2:v2 k=none:=by rcases he with h|h;rw [e1] at h;cases h;exact h
    refine wpAny_bind (wpAny_bind (wpAny_onRaise ?_));show wpAny _ _ (Builtin.SmallTypes.nextOf (.ref i1) >>= _) _ _ _;refine (wpAny_bind (S1.item k x _ _ _ o11 e1 fun g2 o12 t2=>wpAny_pure ?_))
    have hO2:IsPair g2 TO p q:=t2.extBut _ _ (Ne.symm n1O) (t1.extBut _ _ D.a2 hO)
    refine wpAny_bind (wpAny_seqItems hO2 rfl (wpAny_bind (wpAny_updateSeq_pair hO2 fun g3 hO3 t3=>?_)))
    refine wpAny_bind (wpAny_letGo (wpAny_pure ?_))
    have o23:ok2 k g3:=S2.ext (S2.ext (S2.ext o2 t1.extBut D.b2) t2.extBut D.c1) t3.extBut D.b4
    refine wpAny_bind (wpAny_bind (wpAny_onRaise ?_));show wpAny _ _ (Builtin.SmallTypes.nextOf (.ref i2) >>= _) _ _ _;refine (wpAny_bind (S2.stop k _ _ _ o23 e2 fun g4 e t4 ⟨oe,he',ce⟩=>?_))
    have hz4:IsZip g4 z TI TO .ellipsis:=t4 _ _ (Ne.symm n2z) (t3.extBut _ _ (Ne.symm D.a2) (t2.extBut _ _ (Ne.symm n1z) hz1))
    have ez:e≠z:=fun q=>by subst q;rw [hz4] at he';cases he';simp at ce
    exact wpAny_setField_rec hz4 (by simp) fun g5 _ t5=>hE g5 e (fun c o m1 m2 m3 m4 x=>t5.extBut _ _ m1 (t4 _ _ m4 (t3.extBut _ _ m2 (t2.extBut _ _ m3 (t1.extBut _ _ m1 x))))) ⟨oe,t5.extBut _ _ ez he',ce⟩
end
end L2
end
section
-- text: ExtC
namespace L2
open PySem PySem.Spec PyProof.Rows
def SqB (K:PySem.W.Frag):Bool→Hp→Addr→List V→Prop
  | true=>fun H a xs=>SqT K H a xs
  | false=>fun H a xs=>SqL K H a xs
def zbG:Bool→Heap→Addr→Array Value→Prop
  | true=>fun h a xs=>h.IsTuple a xs
  | false=>fun h a xs=>h.IsList a xs
def ydi:Bool→Heap→Addr→Addr→Nat→Prop
  | true=>fun h a l k=>h.IsTupleIter a l k
  | false=>fun h a l k=>h.IsListIter a l k
def yav (b:Bool) (l:Addr):Obj:={ cls:=.type (if b then "tuple_iterator" else "list_iterator"),data:=.fields #[.ref l,.int 0 0] }
theorem ycJ (b:Bool) (h:Heap) (l:Addr) (a:Addr) (e:h.get? a=some (yav b l)):ydi b h a l 0:=by cases b <;> exact ⟨_,e,rfl,rfl⟩
theorem zbZ {b:Bool} {h h':Heap} {a l:Addr} {k:Nat} (x:ydi b h a l k) (e:∀o,h.get? a=some o→h'.get? a=some o):ydi b h' a l k:=by
  cases b
  · exact Heap.IsListIter.at x e
  · exact zc2 x e
theorem ye7 {b:Bool} {h h':Heap} {a:Addr} {xs:Array Value} (x:zbG b h a xs) (e:∀o,h.get? a=some o→h'.get? a=some o):zbG b h' a xs:=by
  cases b
  · exact Heap.IsList.at x e
  · exact ygs x e
theorem subB {P:Program} {w:World} {A:Around} (b:Bool) {a l:Addr} {xs:Array Value} (hh:A.handled=none) (ne:l≠a):zdn P w A a [a,l] (fun k h=>ydi b h a l k∧zbG b h l xs) (fun k=>xs[k]?):=by
  cases b
  · exact zgK hh ne
  · exact yhb hh ne
theorem zbg {b:Bool} {h:Heap} {a l:Addr} {k:Nat} (x:ydi b h a l k):∃o,h.get? a=some o∧(∀v,o.data≠.cell v)∧(o.cls = .type "tuple_iterator"∨o.cls = .type "list_iterator"):=by
  cases b <;> obtain ⟨o,e,c,d⟩:=x
  · exact ⟨o,e,fun v q=>(by rw [d] at q;cases q),.inr c⟩
  · exact ⟨o,e,fun v q=>(by rw [d] at q;cases q),.inl c⟩
theorem zc9 {b:Bool} {h:Heap} {a:Addr} {xs:Array Value} (x:zbG b h a xs):∃o,h.get? a=some o∧(o.cls = .type "tuple"∨o.cls = .type "list"):=by
  cases b <;> obtain ⟨o,e,c,d⟩:=x
  · exact ⟨o,e,.inr c⟩
  · exact ⟨o,e,.inl c⟩
theorem zcw {P:Program} {w:World} {A:Around} {E:Value→Shared→Prop} {s:Shared} {b:Bool} {t:Addr} {items:Array Value} {Q:Value→Shared→Prop} (ht:zbG b s.heap t items)
    (hQ:Q (.ref s.heap.objs.size) { s with heap:=s.heap.push (yav b t) }):wpAny (model P w) A (pyIter (.ref t)) Q E s:=by
  cases b
  · exact wpAny_pyIter_list ht hQ
  · exact wpAny_pyIter_tuple ht hQ
section
variable {X:Cx} {pins:List (Addr×Obj)} {σ:St} {H:Hp} {s:Shared}
theorem Inv.seqB {b:Bool} {a:Addr} {xs:List V} (I:Inv X pins σ H s) (h:SqB X.K b H a xs):∃its:List Value,Vals xs its∧zbG b s.heap a its.toArray∧xs.length≤sizeLine:=by
  cases b
  · obtain ⟨its,r,p,z⟩:=I.list h;exact ⟨its,r,p.isList,z⟩
  · obtain ⟨its,r,p,z⟩:=I.tuple h;exact ⟨its,r,p,z⟩
theorem Inv.seqB_inj {b:Bool} {a:Addr} {xs ys:List V} (I:Inv X pins σ H s) (h:SqB X.K b H a xs) (h':SqB X.K b H a ys):xs=ys:=by
  cases b
  · exact I.list_inj h h'
  · exact I.tuple_inj h h'
theorem Inv.turnedT {fp:List Addr} {h':Heap} {t':Nat} {T:Addr} {xs:List V} {its:Array Value} (I:Inv X pins σ H s) (hf:∀b∈fp,FpOk X pins H b) (k:∀b o,b∉fp→s.heap.get? b=some o→h'.get? b=some o)
    (hp:s.heap.objs.size≤T) (z:xs.length≤sizeLine) (r:Vals xs its.toList) (new:h'.IsTuple T its):Inv X pins σ (upd H T (.tup xs)) { s with heap:=h',toks:=t' }:=by
  have fT:H T=none:=I.hok.fresh hp
  have nT:∀b o,s.heap.get? b=some o→b≠T:=fun b o e q=>by
    have l1:s.heap.objs.size≥Nat.succ b:=Heap.lt_size e
    have l2:@Eq Nat b T:=q
    omega
  have nfp:∀b u,H b=some u→b∉fp:=fun b u e q=>by rw [(hf b q).1] at e;cases e
  refine I.step (g':=s.gens) (d':=s.drawn) (ch:=fp) (fun b hb=>⟨(hf b hb).2.2.2.1,(hf b hb).2.1,(hf b hb).2.2.2.2.1,(hf b hb).2.2.2.2.2⟩) (fun b o _ _ hc e _=>k b o hc e) (fun b o _ _ hc e _=>⟨o.slots,k b o hc e⟩)
    (fun b o _ e n=>by rw [yag (nT b o e)];exact n) (fun b o hc e=>⟨o,k b o hc e⟩) (fun b ys e=>by rw [yag (zaf e fT)];exact e) (fun b o u e=>by rw [yag (zaf e fT)];exact e)
    (fun b ps e=>⟨#[],by rw [yag (zaf e fT),e];simp⟩) (fun m hm=>?_) (fun b u e=>?_) I.bare
  · obtain ⟨o,es,ep,ho,q⟩:=hm
    exact ⟨o,es,ep,k _ o (fun hb=>(hf _ hb).2.1 rfl) ho,q⟩
  · by_cases hb:b=T
    · subst hb
      rw [zab] at e;cases e
      have q:IsTup h' b its:=new
      exact ⟨z,its.toList,r,by simpa using q⟩
    · rw [yag hb] at e
      refine (I.hok b u e).stay (fun c v hc q=>k c v ?_ q) (fun c q=>?_) fun c ys q=>?_
      · rcases hc with hc|hc
        · rw [hc];exact nfp b u e
        · exact nfp c _ hc
      · rw [yag (zaf q fT)];exact q
      · rw [yag (zaf q fT)];exact q
theorem Inv.turnedL {fp:List Addr} {h':Heap} {t':Nat} (I:Inv X pins σ H s) (hf:∀b∈fp,FpOk X pins H b) (k:∀b o,b∉fp→s.heap.get? b=some o→h'.get? b=some o):Inv X pins σ H { s with heap:=h',toks:=t' }:=by
  have nfp:∀b u,H b=some u→b∉fp:=fun b u e q=>by rw [(hf b q).1] at e;cases e
  refine I.step (g':=s.gens) (d':=s.drawn) (ch:=fp) (fun b hb=>⟨(hf b hb).2.2.2.1,(hf b hb).2.1,(hf b hb).2.2.2.2.1,(hf b hb).2.2.2.2.2⟩) (fun b o _ _ hc e _=>k b o hc e) (fun b o _ _ hc e _=>⟨o.slots,k b o hc e⟩)
    (fun b o _ e n=>n) (fun b o hc e=>⟨o,k b o hc e⟩) (fun b ys e=>e) (fun b o u e=>e) (fun b ps e=>⟨#[],by rw [e];simp⟩) (fun m hm=>?_) (fun b u e=>?_) I.bare
  · obtain ⟨o,es,ep,ho,q⟩:=hm
    exact ⟨o,es,ep,k _ o (fun hb=>(hf _ hb).2.1 rfl) ho,q⟩
  · refine (I.hok b u e).stay (fun c v hc q=>k c v ?_ q) (fun c q=>q) fun c ys q=>q
    rcases hc with hc|hc
    · rw [hc];exact nfp b u e
    · exact nfp c _ hc
end
def Itz (K:PySem.W.Frag) (b1 b2:Bool) (l1 l2:Addr):It :=
  ⟨fun i H=>∃xs ys x y,SqB K b1 H l1 xs∧SqB K b2 H l2 ys∧xs[i]?=some x∧ys[i]?=some y,
   fun i H v H'=>∃T x y,v = .ref T∧H T=none∧H'=upd H T (.tup [x,y])∧(∀xs,SqB K b1 H l1 xs→xs[i]?=some x)∧(∀ys,SqB K b2 H l2 ys→ys[i]?=some y),
   fun i H=>∃xs ys,SqB K b1 H l1 xs∧SqB K b2 H l2 ys∧(xs.length≤i∨ys.length≤i)⟩
structure ZSt (b1 b2:Bool) (z TI TO i1 i2 l1 l2:Addr) (k:Nat) (h:Heap):Prop where
  zip:IsZip h z TI TO .none
  ti:IsPair h TI (.ref i1) (.ref i2)
  to:∃a b,IsPair h TO a b
  it1:ydi b1 h i1 l1 k
  it2:ydi b2 h i2 l2 k
theorem ybf {h:Heap} {a b:Addr} {o u:Obj} {x y:String} (e:h.get? a=some o) (e':h.get? b=some u) (ca:o.cls = .type x) (cb:u.cls = .type y) (n:x≠y:=by decide):a≠b:=fun q=>by
  subst q;rw [e] at e';cases e';rw [ca] at cb;injection cb with cb;exact n cb
theorem Inv.sq_ne {X:Cx} {pins:List (Addr×Obj)} {σ:St} {H:Hp} {s:Shared} {b:Bool} {l c:Addr} {xs:List V} (I:Inv X pins σ H s) (h:SqB X.K b H l xs) (f:FpOk X pins H c):l≠c:=by
  have key:(∃u,H l=some u)∨∃o,X.K.lookup l=some o:=by
    cases b
    · rcases h with (h | ⟨o,h⟩) | ⟨o,_,_,h,_⟩
      · exact .inl ⟨_,h⟩
      · exact .inl ⟨_,h⟩
      · exact .inr ⟨o,h⟩
    · rcases h with (h | ⟨o,h⟩) | ⟨o,_,_,h,_⟩
      · exact .inl ⟨_,h⟩
      · exact .inl ⟨_,h⟩
      · exact .inr ⟨o,h⟩
  intro q
  subst q
  rcases key with ⟨u,e⟩ | ⟨o,e⟩
  · rw [f.1] at e;cases e
  · have eb:=I.ok.mod.kin l o e
    rcases f.2.2.2.1 with z|z
    · exact I.ok.noex l o eb z
    · have l1:X.base.objs.size≥Nat.succ l:=Heap.lt_size eb
      have l2:X.base.objs.size≤X.s₀.heap.objs.size:=I.ok.bsz
      have l3:X.s₀.heap.objs.size≤l:=z
      omega
theorem zgk {P:Program} {w:World} {K:PySem.W.Frag} {elts:List Expr} {kk:Nat} {tpos:Pos} (b1 b2:Bool) (z TI TO i1 i2 l1 l2:Addr) (nIO:TI≠TO) (n12:i1≠i2) :
    Turn P w K (.Tuple elts kk tpos) (Itz K b1 b2 l1 l2) [z,TI,TO,i1,i2] z (ZSt b1 b2 z TI TO i1 i2 l1 l2) where
  mem:=List.mem_cons_self
  obj:=fun k h S b hb=>by
    obtain ⟨p,q,hO⟩:=S.to
    obtain ⟨o1,e1,d1,_⟩:=zbg S.it1
    obtain ⟨o2,e2,d2,_⟩:=zbg S.it2
    simp only [List.mem_cons,List.not_mem_nil,or_false] at hb
    rcases hb with rfl|rfl|rfl|rfl|rfl
    · exact ⟨_,S.zip,fun v q=>by cases q⟩
    · exact ⟨_,S.ti,fun v q=>by cases q⟩
    · exact ⟨_,hO,fun v q=>by cases q⟩
    · exact ⟨o1,e1,d1⟩
    · exact ⟨o2,e2,d2⟩
  keep:=fun k h h' S q=>by
    obtain ⟨p,r,hO⟩:=S.to
    exact ⟨q z (by simp) _ S.zip,q TI (by simp) _ S.ti,⟨p,r,q TO (by simp) _ hO⟩,zbZ S.it1 fun o e=>q i1 (by simp) o e,zbZ S.it2 fun o e=>q i2 (by simp) o e⟩
  item:=by
    intro X hP hw hK hc i pins s σ H E I hf S hg
    subst hP hw hK
    obtain ⟨xs,ys,x,y,h1,h2,ex,ey⟩:=hg
    obtain ⟨us,r1,p1,z1⟩:=I.seqB h1
    obtain ⟨vs,r2,p2,z2⟩:=I.seqB h2
    obtain ⟨u,eu,ru⟩:=r1.get ex
    obtain ⟨v,ev,rv⟩:=r2.get ey
    obtain ⟨p,q,hO⟩:=S.to
    obtain ⟨o1,e1,_,c1⟩:=zbg S.it1
    obtain ⟨o2,e2,_,c2⟩:=zbg S.it2
    obtain ⟨q1,f1,g1⟩:=zc9 p1
    obtain ⟨q2,f2,g2⟩:=zc9 p2
    have fz:∀b∈[z,TI,TO,i1,i2],H b=none:=fun b hb=>(hf b hb).1
    have hh:X.A.handled=none:=I.ok.hd hc
    have nl1:∀b∈[z,TI,TO,i1,i2],l1≠b:=fun b hb=>I.sq_ne h1 (hf b hb)
    have nl2:∀b∈[z,TI,TO,i1,i2],l2≠b:=fun b hb=>I.sq_ne h2 (hf b hb)
    have i1z:i1≠z:=by rcases c1 with c|c <;> exact ybf e1 S.zip c rfl
    have i2z:i2≠z:=by rcases c2 with c|c <;> exact ybf e2 S.zip c rfl
    have i1I:i1≠TI:=by rcases c1 with c|c <;> exact ybf e1 S.ti c rfl
    have i2I:i2≠TI:=by rcases c2 with c|c <;> exact ybf e2 S.ti c rfl
    have i1O:i1≠TO:=by rcases c1 with c|c <;> exact ybf e1 hO c rfl
    have i2O:i2≠TO:=by rcases c2 with c|c <;> exact ybf e2 hO c rfl
    have Iz:TI≠z:=ybf S.ti S.zip rfl rfl
    have Oz:TO≠z:=ybf hO S.zip rfl rfl
    have D:ZAp z TI TO [i1,l1] [i2,l2] i1 i2:=by
      refine ⟨Iz,Oz,nIO,?_,?_,?_,?_,Ne.symm i1I,Ne.symm i2I,?_,?_⟩
      · simp only [List.mem_cons,List.not_mem_nil,or_false,not_or];exact ⟨Ne.symm i1z,Ne.symm (nl1 z (by simp))⟩
      · simp only [List.mem_cons,List.not_mem_nil,or_false,not_or];exact ⟨Ne.symm i2z,Ne.symm (nl2 z (by simp))⟩
      · simp only [List.mem_cons,List.not_mem_nil,or_false,not_or];exact ⟨Ne.symm i1O,Ne.symm (nl1 TO (by simp))⟩
      · simp only [List.mem_cons,List.not_mem_nil,or_false,not_or];exact ⟨Ne.symm i2O,Ne.symm (nl2 TO (by simp))⟩
      · simp only [List.mem_cons,List.not_mem_nil,or_false,not_or];exact ⟨n12,Ne.symm (nl2 i1 (by simp))⟩
      · simp only [List.mem_cons,List.not_mem_nil,or_false,not_or];exact ⟨Ne.symm n12,Ne.symm (nl1 i2 (by simp))⟩
    have hT:s.TypeIs (.ref z) "zip":=⟨_,S.zip,rfl⟩
    unfold pyNext
    refine wpAny_bind (wpAny_attempt (wpAny_callSpecial?_slot (name:=Str.ofString "__next__") hT F.slot_zip_next (wpAny_call_entry F.slot_zip_next hT F.entry_zip_next
      (yfz D (subB b1 (A:=X.A.in1) hh (nl1 i1 (by simp))) (subB b2 (A:=X.A.in1) hh (nl2 i2 (by simp))) S.zip S.ti hO ⟨S.it1,p1⟩ ⟨S.it2,p2⟩ (x:=u) (y:=v) (by simpa using eu) (by simpa using ev)
        fun g a1 a2 a3 a4 a5 a6=>wpAny_pure ?_) (F.args_zip_next_1 _))))
    refine ⟨_,rfl,wpAny_letOwnedTupleGo_zip (s:={ s with heap:=g }) a1 fun g' hz' t=>?_⟩
    have lt:∀ {c:Addr} {o:Obj},s.heap.get? c=some o→s.heap.objs.size≠c:=fun e=>Nat.ne_of_gt (Heap.lt_size e)
    have k':∀b o,b∉[z,TI,TO,i1,i2]→s.heap.get? b=some o→g'.get? b=some o:=fun b o hb e=>by
      simp only [List.mem_cons,List.not_mem_nil,or_false,not_or] at hb
      exact t.extBut b o hb.1 (a6 b o hb.1 hb.2.2.1 hb.2.2.2.1 hb.2.2.2.2 e)
    have hTI':IsPair g' TI (.ref i1) (.ref i2):=t.extBut _ _ Iz (a6 _ _ Iz nIO (Ne.symm i1I) (Ne.symm i2I) S.ti)
    have hS':ZSt b1 b2 z TI TO i1 i2 l1 l2 (i+1) g':=⟨hz',hTI',⟨_,_,t.extBut _ _ Oz a2⟩,zbZ a3.1 fun o e=>t.extBut _ _ i1z e,zbZ a4.1 fun o e=>t.extBut _ _ i2z e⟩
    have fT:H s.heap.objs.size=none:=I.hok.fresh (Nat.le_refl _)
    have J:Inv X pins σ (upd H s.heap.objs.size (.tup [x,y])) { s with heap:=g' }:=I.turnedT (t':=s.toks) (fp:=[z,TI,TO,i1,i2]) hf k' (Nat.le_refl _) (by show 2≤sizeLine;decide) (its:=#[u,v]) (.cons ru (.cons rv .nil)) ⟨_,t.extBut _ _ (lt S.zip) a5,rfl,_,rfl⟩
    refine ⟨.ref s.heap.objs.size,upd H s.heap.objs.size (.tup [x,y]),J,rfl,
      ⟨_,x,y,rfl,fT,rfl,fun xs' hx'=>by rw [I.seqB_inj hx' h1];exact ex,fun ys' hy'=>by rw [I.seqB_inj hy' h2];exact ey⟩,hS',fun b hb=>?_⟩
    have fobj:∃o,s.heap.get? b=some o:=by
      simp only [List.mem_cons,List.not_mem_nil,or_false] at hb
      rcases hb with rfl|rfl|rfl|rfl|rfl
      · exact ⟨_,S.zip⟩
      · exact ⟨_,S.ti⟩
      · exact ⟨_,hO⟩
      · exact ⟨_,e1⟩
      · exact ⟨_,e2⟩
    obtain ⟨o,eo⟩:=fobj
    rw [yag (Ne.symm (lt eo))]
    exact fz b hb
  done:=by
    intro X hP hw hK hc i pins s σ H E I hf S hg
    subst hP hw hK
    obtain ⟨xs,ys,h1,h2,le⟩:=hg
    obtain ⟨us,r1,p1,z1⟩:=I.seqB h1
    obtain ⟨vs,r2,p2,z2⟩:=I.seqB h2
    obtain ⟨p,q,hO⟩:=S.to
    obtain ⟨o1,e1,_,c1⟩:=zbg S.it1
    obtain ⟨o2,e2,_,c2⟩:=zbg S.it2
    have hh:X.A.handled=none:=I.ok.hd hc
    have nl1:∀b∈[z,TI,TO,i1,i2],l1≠b:=fun b hb=>I.sq_ne h1 (hf b hb)
    have nl2:∀b∈[z,TI,TO,i1,i2],l2≠b:=fun b hb=>I.sq_ne h2 (hf b hb)
    have i1z:i1≠z:=by rcases c1 with c|c <;> exact ybf e1 S.zip c rfl
    have i2z:i2≠z:=by rcases c2 with c|c <;> exact ybf e2 S.zip c rfl
    have i1I:i1≠TI:=by rcases c1 with c|c <;> exact ybf e1 S.ti c rfl
    have i2I:i2≠TI:=by rcases c2 with c|c <;> exact ybf e2 S.ti c rfl
    have i1O:i1≠TO:=by rcases c1 with c|c <;> exact ybf e1 hO c rfl
    have i2O:i2≠TO:=by rcases c2 with c|c <;> exact ybf e2 hO c rfl
    have Iz:TI≠z:=ybf S.ti S.zip rfl rfl
    have Oz:TO≠z:=ybf hO S.zip rfl rfl
    have D:ZAp z TI TO [i1,l1] [i2,l2] i1 i2:=by
      refine ⟨Iz,Oz,nIO,?_,?_,?_,?_,Ne.symm i1I,Ne.symm i2I,?_,?_⟩
      · simp only [List.mem_cons,List.not_mem_nil,or_false,not_or];exact ⟨Ne.symm i1z,Ne.symm (nl1 z (by simp))⟩
      · simp only [List.mem_cons,List.not_mem_nil,or_false,not_or];exact ⟨Ne.symm i2z,Ne.symm (nl2 z (by simp))⟩
      · simp only [List.mem_cons,List.not_mem_nil,or_false,not_or];exact ⟨Ne.symm i1O,Ne.symm (nl1 TO (by simp))⟩
      · simp only [List.mem_cons,List.not_mem_nil,or_false,not_or];exact ⟨Ne.symm i2O,Ne.symm (nl2 TO (by simp))⟩
      · simp only [List.mem_cons,List.not_mem_nil,or_false,not_or];exact ⟨n12,Ne.symm (nl2 i1 (by simp))⟩
      · simp only [List.mem_cons,List.not_mem_nil,or_false,not_or];exact ⟨Ne.symm n12,Ne.symm (nl1 i2 (by simp))⟩
    have he:us.toArray[i]?=none∨vs.toArray[i]?=none:=by
      have l1:=r1.length
      have l2:=r2.length
      rcases le with l|l
      · exact .inl (by simp;omega)
      · exact .inr (by simp;omega)
    have hT:s.TypeIs (.ref z) "zip":=⟨_,S.zip,rfl⟩
    unfold pyNext
    refine wpAny_bind (wpAny_attempt (wpAny_callSpecial?_slot (name:=Str.ofString "__next__") hT F.slot_zip_next (wpAny_call_entry F.slot_zip_next hT F.entry_zip_next
      (yge D (subB b1 (A:=X.A.in1) hh (nl1 i1 (by simp))) (subB b2 (A:=X.A.in1) hh (nl2 i2 (by simp))) S.zip S.ti hO ⟨S.it1,p1⟩ ⟨S.it2,p2⟩ he fun g e kg ⟨oe,ho,hce⟩=>?_) (F.args_zip_next_1 _))))
    refine wpAny_bind (wpAny_isInstance (T:="StopIteration") (b:=true) ⟨oe,ho,hce⟩ isSubtype_stop (wpAny_pure ⟨rfl,?_⟩))
    refine I.turnedL (t':=s.toks) (fp:=[z,TI,TO,i1,i2]) hf fun b o hb e=>?_
    simp only [List.mem_cons,List.not_mem_nil,or_false,not_or] at hb
    exact kg b o hb.1 hb.2.2.1 hb.2.2.2.1 hb.2.2.2.2 e
  self:=fun A i s Q E S h=>wpAny_pyIter_zip S.zip h
def zfp (h:Heap) (o1 o2:Obj):Heap:=(((h.push o1).push o2).push { cls:=.type "tuple",data:=.seq #[.ref h.objs.size,.ref (h.push o1).objs.size] }).push { cls:=.type "tuple",data:=.seq #[.none,.none] }
def ycY (h:Heap) (o1 o2:Obj):Heap:=(zfp h o1 o2).push { cls:=.type "zip",data:=.fields #[.none,.bool false,.bool false,.ref ((h.push o1).push o2).objs.size,.ref (((h.push o1).push o2).push { cls:=.type "tuple",data:=.seq #[.ref h.objs.size,.ref (h.push o1).objs.size] }).objs.size] }
theorem yeL (b1 b2:Bool) (l1 l2:Addr) (xs ys:Array Value) :
    Meets (Builtin.«zip.__new__» ⟨[.type "zip",.ref l1,.ref l2],[]⟩) (fun _ R s=>zbG b1 s.heap l1 xs∧zbG b2 s.heap l2 ys∧R (.ok (.ret (.ref (zfp s.heap (yav b1 l1) (yav b2 l2)).objs.size))) { s with heap:=ycY s.heap (yav b1 l1) (yav b2 l2) }) :=
  .of_wp fun prog w A R s h=>by
    obtain ⟨hp,g,d,tk,os⟩:=s;obtain ⟨hl1,hl2,h⟩:=h
    have hsub:=sub_zip
    have hL1:zbG b1 (Shared.heap ⟨hp,g,d,tk,os⟩) l1 xs:=hl1
    have hL2:zbG b2 (Shared.heap ⟨hp.push (yav b1 l1),g,d,tk,os⟩) l2 ys:=ye7 hl2 fun o e=>Heap.get?_push_of_some _ e
    wp_walk using zcw hL1,zcw hL2
    exact ⟨_,rfl,h⟩
end L2
end
section
-- text: ExtD
namespace L2
open PySem PySem.Spec PyProof.Rows
section
variable {X:Cx}
def iZip (K:PySem.W.Frag) (ta:TA):TI:=fun σ H R=>ta σ H fun vs H1=>∃b1 b2 a1 a2,vs=[.ref a1,.ref a2]∧(∃xs,SqB K b1 H1 a1 xs)∧(∃ys,SqB K b2 H1 a2 ys)∧R (Itz K b1 b2 a1 a2) H1
theorem zhj {pins:List (Addr×Obj)} {σ:St} {H:Hp} {s:Shared} {R:It→Hp→Prop} {elts:List Expr} {kk:Nat} {tpos:Pos} {b1 b2:Bool} {l1 l2:Addr} {xs ys:List V} (I:Inv X pins σ H s) (h1:SqB X.K b1 H l1 xs) (h2:SqB X.K b2 H l2 ys) (q:R (Itz X.K b1 b2 l1 l2) H) :
    wpAny (model X.prog X.w) X.A (call (.type "zip") [.ref l1,.ref l2]) (fun v s1=>wpAny (model X.prog X.w) X.A (pyIter v) (PIE X pins σ (.Tuple elts kk tpos) R) X.xe s1) X.xe s:=by
  obtain ⟨us,r1,p1,z1⟩:=I.seqB h1
  obtain ⟨vs,r2,p2,z2⟩:=I.seqB h2
  refine callType_new F.called_zip (by decide) (F.typeCall_zip_2 _ _) (F.newCall_zip_2 _ _) (fun obj=>F.args_object_init_3 obj _ _) F.entry_zip_new (yeL b1 b2 l1 l2 us.toArray vs.toArray) ⟨p1,p2,?_⟩
  generalize hn:s.heap.objs.size=n
  have s1:(s.heap.push (yav b1 l1)).objs.size=n+1:=by rw [Heap.size_push,hn]
  have s2:((s.heap.push (yav b1 l1)).push (yav b2 l2)).objs.size=n+2:=by rw [Heap.size_push,s1]
  have s3:(((s.heap.push (yav b1 l1)).push (yav b2 l2)).push { cls:=.type "tuple",data:=.seq #[.ref s.heap.objs.size,.ref (s.heap.push (yav b1 l1)).objs.size] }).objs.size=n+3:=by rw [Heap.size_push,s2]
  have s4:(zfp s.heap (yav b1 l1) (yav b2 l2)).objs.size=n+4:=by unfold zfp;rw [Heap.size_push,s3]
  have old:∀b o,s.heap.get? b=some o→(ycY s.heap (yav b1 l1) (yav b2 l2)).get? b=some o:=fun b o e=>Heap.get?_push_of_some _ (Heap.get?_push_of_some _ (Heap.get?_push_of_some _ (Heap.get?_push_of_some _ (Heap.get?_push_of_some _ e))))
  have gz:(ycY s.heap (yav b1 l1) (yav b2 l2)).get? (n+4)=some { cls:=.type "zip",data:=.fields #[.none,.bool false,.bool false,.ref (n+2),.ref (n+3)] }:=by
    have e:(ycY s.heap (yav b1 l1) (yav b2 l2)).get? (zfp s.heap (yav b1 l1) (yav b2 l2)).objs.size=some _:=Heap.get?_push_size _ rfl
    rw [s4] at e
    rw [e,s2,s3]
  have gO:(ycY s.heap (yav b1 l1) (yav b2 l2)).get? (n+3)=some { cls:=.type "tuple",data:=.seq #[.none,.none] }:=by
    have e:=Heap.get?_push_size (h:=((s.heap.push (yav b1 l1)).push (yav b2 l2)).push { cls:=.type "tuple",data:=.seq #[.ref s.heap.objs.size,.ref (s.heap.push (yav b1 l1)).objs.size] }) (o:={ cls:=.type "tuple",data:=.seq #[.none,.none] }) rfl
    rw [s3] at e
    exact Heap.get?_push_of_some _ e
  have gI:(ycY s.heap (yav b1 l1) (yav b2 l2)).get? (n+2)=some { cls:=.type "tuple",data:=.seq #[.ref n,.ref (n+1)] }:=by
    have e:(ycY s.heap (yav b1 l1) (yav b2 l2)).get? ((s.heap.push (yav b1 l1)).push (yav b2 l2)).objs.size=some { cls:=.type "tuple",data:=.seq #[.ref s.heap.objs.size,.ref (s.heap.push (yav b1 l1)).objs.size] }:=Heap.get?_push_of_some _ (Heap.get?_push_of_some _ (Heap.get?_push_size _ rfl))
    rw [s2] at e
    rw [e,s1,hn]
  have g2:(ycY s.heap (yav b1 l1) (yav b2 l2)).get? (n+1)=some (yav b2 l2):=by
    have e:=Heap.get?_push_size (h:=s.heap.push (yav b1 l1)) (o:=yav b2 l2) rfl
    rw [s1] at e
    exact Heap.get?_push_of_some _ (Heap.get?_push_of_some _ (Heap.get?_push_of_some _ e))
  have g1:(ycY s.heap (yav b1 l1) (yav b2 l2)).get? n=some (yav b1 l1):=by
    have e:=Heap.get?_push_size (h:=s.heap) (o:=yav b1 l1) rfl
    rw [hn] at e
    exact Heap.get?_push_of_some _ (Heap.get?_push_of_some _ (Heap.get?_push_of_some _ (Heap.get?_push_of_some _ e)))
  rw [s4]
  refine ⟨⟨_,gz,rfl⟩,wpAny_pyIter_zip gz ?_⟩
  have I1:Inv X pins σ H { s with heap:=ycY s.heap (yav b1 l1) (yav b2 l2) }:=I.kept (t':=s.toks) old
  refine ⟨n+4,[n+4,n+2,n+3,n,n+1],_,_,H,rfl,I1,zgk b1 b2 (n+4) (n+2) (n+3) n (n+1) l1 l2 (show @Ne Nat _ _ by omega) (show @Ne Nat _ _ by omega),⟨gz,gI,⟨_,_,gO⟩,ycJ _ _ _ _ g1,ycJ _ _ _ _ g2⟩,fun b hb=>?_,q⟩
  have le:s.heap.objs.size≤b:=by
    rw [hn]
    simp only [List.mem_cons,List.not_mem_nil,or_false] at hb
    show @LE.le Nat _ n b
    rcases hb with e|e|e|e|e <;> (have e':@Eq Nat b _:=e;omega)
  exact I.fpOk le (I.hok.fresh le)
theorem zg1 {a b:Expr} {ta:TA} {p pos:Pos} {elts:List Expr} {kk:Nat} {tpos:Pos} (hg:Gl X "zip") (hm:X.mg "zip"=none) (ha:PA X [a,b] ta) (hs:starEach [a,b] X.env=[(false,eval a X.env),(false,eval b X.env)]:=by rfl) (hs2:starEach [b] X.env=[(false,eval b X.env)]:=by rfl) :
    PI X (.Tuple elts kk tpos) (.Call (.Name "zip" p) [a,b] [] pos) (iZip X.K ta):=by
  intro pins s σ H R I h
  refine Call_ (ybO I hg hm (u:=.type "zip") boot_zip (PyProof.Rows.callWith_type1 (thn (ha pos pins s σ H _ I h) fun us s1 ⟨vs,H1,I1,r1,q1⟩=>?_) (by rw [hs,hs2]) (by rw [hs2];rfl)))
  obtain ⟨b1,b2,a1,a2,e,⟨xs,h1⟩,⟨ys,h2⟩,q⟩:=q1
  subst e
  cases r1 with
  | cons r rr =>
    cases rr with
    | cons r' rr =>
      cases rr
      cases r
      cases r'
      exact zhj I1 h1 h2 q
end
end L2
end
section
-- text: ExtE
namespace L2
open PySem PySem.Spec PyProof.Rows
def Ite (K:PySem.W.Frag) (b:Bool) (l:Addr):It :=
  ⟨fun i H=>∃xs x,SqB K b H l xs∧xs[i]?=some x,
   fun i H v H'=>∃T x,v = .ref T∧H T=none∧H'=upd H T (.tup [.int i,x])∧(∀xs,SqB K b H l xs→xs[i]?=some x),
   fun i H=>∃xs,SqB K b H l xs∧xs.length≤i⟩
theorem yhc {P:Program} {w:World} {A:Around} (b:Bool) {a l:Addr} {xs:Array Value} (hh:A.handled=none) (ne:l≠a):Draws P w A a [a,l] xs.size (fun i v=>xs[i]?=some v) (fun k h=>ydi b h a l k∧zbG b h l xs) where
  live:=fun k h z=>let ⟨o,e,_⟩:=(subB (P:=P) (w:=w) b hh ne).obj k h z;⟨o,e⟩
  frame:=fun k h h' z q=>(subB (P:=P) (w:=w) b hh ne).keep k h h' z q
  item:=fun k s Q E hk z q=>by
    have hx:xs[k]?=some xs[k]:=Array.getElem?_eq_getElem hk
    exact (subB (P:=P) (w:=w) b hh ne).item k xs[k] s Q E z hx fun h' a1 a2=>q xs[k] h' s.toks hx a1 a2
  done:=fun s Q E z q=>(subB (P:=P) (w:=w) b hh ne).stop xs.size s Q E z (Array.getElem?_eq_none (Nat.le_refl _)) q
structure ESt (b:Bool) (e it l:Addr) (k:Nat) (h:Heap):Prop where
  en:∃old,IsEnum h e it k old
  it:ydi b h it l k
theorem yfB {P:Program} {w:World} {K:PySem.W.Frag} {elts:List Expr} {kk:Nat} {tpos:Pos} (b:Bool) (e it l:Addr) :
    Turn P w K (.Tuple elts kk tpos) (Ite K b l) [e,it] e (ESt b e it l) where
  mem:=List.mem_cons_self
  obj:=fun k h S c hc=>by
    obtain ⟨old,he⟩:=S.en
    obtain ⟨o1,e1,d1,_⟩:=zbg S.it
    simp only [List.mem_cons,List.not_mem_nil,or_false] at hc
    rcases hc with rfl|rfl
    · exact ⟨_,he,fun v q=>by cases q⟩
    · exact ⟨o1,e1,d1⟩
  keep:=fun k h h' S q=>by
    obtain ⟨old,he⟩:=S.en
    exact ⟨⟨old,q e (by simp) _ he⟩,zbZ S.it fun o x=>q it (by simp) o x⟩
  item:=by
    intro X hP hw hK hc i pins s σ H E I hf S hg
    subst hP hw hK
    obtain ⟨xs,x,h1,ex⟩:=hg
    obtain ⟨us,r1,p1,z1⟩:=I.seqB h1
    obtain ⟨u,eu,ru⟩:=r1.get ex
    obtain ⟨old,he⟩:=S.en
    obtain ⟨o1,e1,_,c1⟩:=zbg S.it
    have hh:X.A.handled=none:=I.ok.hd hc
    have nl:∀c∈[e,it],l≠c:=fun c hc=>I.sq_ne h1 (hf c hc)
    have ei:e≠it:=by rcases c1 with c|c <;> exact ybf he e1 rfl c
    have ilt:i<us.toArray.size:=by
      have:=(List.getElem?_eq_some_iff.mp eu).1
      simpa using this
    refine wpAny_pyNext_enum_itemD (yhc b (A:=X.A.in1) hh (nl it (by simp))) he ⟨S.it,p1⟩ ilt ei (by simp only [List.mem_cons,List.not_mem_nil,or_false,not_or];exact ⟨ei,Ne.symm (nl e (by simp))⟩) fun y g tk hy a1 a2 a3 a4 a5=>?_
    have ey:y=u:=by
      have q1:us[i]?=some y:=by simpa using hy
      rw [eu] at q1;cases q1;rfl
    subst ey
    refine ⟨_,rfl,wpAny_letOwnedTupleGo_enum (s:={ s with heap:=g,toks:=tk+1 }) a1 fun g' he' t=>?_⟩
    have lt:∀ {c:Addr} {o:Obj},s.heap.get? c=some o→s.heap.objs.size≠c:=fun q=>Nat.ne_of_gt (Heap.lt_size q)
    have k':∀c o,c∉[e,it]→s.heap.get? c=some o→g'.get? c=some o:=fun c o hc q=>by
      simp only [List.mem_cons,List.not_mem_nil,or_false,not_or] at hc
      exact t.extBut c o hc.1 (a5 c o hc.1 hc.2 q)
    have hS':ESt b e it l (i+1) g':=⟨⟨_,by simpa using he'⟩,zbZ a2.1 fun o q=>t.extBut _ _ (Ne.symm ei) q⟩
    have fT:H s.heap.objs.size=none:=I.hok.fresh (Nat.le_refl _)
    have J:Inv X pins σ (upd H s.heap.objs.size (.tup [.int i,x])) { s with heap:=g',toks:=tk+1 } :=
      I.turnedT (t':=tk+1) (fp:=[e,it]) hf k' (Nat.le_refl _) (by show 2≤sizeLine;decide) (its:=#[.int i tk,y]) (.cons ⟨_,rfl⟩ (.cons ru .nil)) ⟨_,t.extBut _ _ (lt he) a3,rfl,_,rfl⟩
    refine ⟨.ref s.heap.objs.size,upd H s.heap.objs.size (.tup [.int i,x]),J,rfl,⟨_,x,rfl,fT,rfl,fun xs' hx'=>by rw [I.seqB_inj hx' h1];exact ex⟩,hS',fun c hc=>?_⟩
    have fobj:∃o,s.heap.get? c=some o:=by
      simp only [List.mem_cons,List.not_mem_nil,or_false] at hc
      rcases hc with rfl|rfl
      · exact ⟨_,he⟩
      · exact ⟨_,e1⟩
    obtain ⟨o,eo⟩:=fobj
    rw [yag (Ne.symm (lt eo))]
    exact (hf c hc).1
  done:=by
    intro X hP hw hK hc i pins s σ H E I hf S hg
    subst hP hw hK
    obtain ⟨xs,h1,le⟩:=hg
    obtain ⟨us,r1,p1,z1⟩:=I.seqB h1
    obtain ⟨old,he⟩:=S.en
    have hh:X.A.handled=none:=I.ok.hd hc
    have nl:∀c∈[e,it],l≠c:=fun c hc=>I.sq_ne h1 (hf c hc)
    have D:=subB (P:=X.prog) (w:=X.w) b (A:=X.A.in1) (xs:=us.toArray) hh (nl it (by simp))
    have hT:s.TypeIs (.ref e) "enumerate":=⟨_,he,rfl⟩
    unfold pyNext
    refine wpAny_bind (wpAny_attempt (wpAny_callSpecial?_slot (name:=Str.ofString "__next__") hT F.slot_enumerate_next (wpAny_call_entry F.slot_enumerate_next hT F.entry_enumerate_next ?_ (F.args_enumerate_next_1 _))))
    show wpAny _ _ (field (.ref e) 2 >>= _) _ _ s;refine wpAny_bind (wpAny_field he rfl (x:=.ref it) rfl ?_)
    refine wpAny_bind (D.stop i _ _ _ ⟨S.it,p1⟩ (by have:=r1.length;simp;omega) fun g x t ⟨o,ho,hce⟩=>?_)
    refine wpAny_bind (wpAny_isInstance (T:="StopIteration") (b:=true) ⟨o,ho,hce⟩ isSubtype_stop (wpAny_pure ⟨rfl,?_⟩))
    refine I.turnedL (t':=s.toks) (fp:=[e,it]) hf fun c o hc q=>?_
    simp only [List.mem_cons,List.not_mem_nil,or_false,not_or] at hc
    exact t c o hc.2 q
  self:=fun A i s Q E S h=>let ⟨_,he⟩:=S.en;wpAny_pyIter_enum he h
theorem yee (b:Bool) (l:Addr) (xs:Array Value) (n:Nat) (dct:Option Addr) (sl:Array (Option Value)) :
    Meets (Builtin.«enumerate.__new__» ⟨[.type "enumerate",.ref l],[]⟩) (fun _ R s=>s.heap.get? l=some { cls:=.type (if b then "tuple" else "list"),dict:=dct,data:=.seq xs n,slots:=sl }∧R (.ok (.ret (.ref (s.heap.push (yav b l)).objs.size))) { s with heap:=(s.heap.push (yav b l)).push { cls:=.type "enumerate",data:=.fields #[.none,.bool false,.ref s.heap.objs.size,rawInt 0,.none,.none] } }) :=
  .of_wp fun prog w A R s h=>by
    obtain ⟨hp,g,d,tk,os⟩:=s;obtain ⟨hl,h⟩:=h
    have hsub:=sub_enumerate
    have hL:zbG b (Shared.heap ⟨hp,g,d,tk,os⟩) l xs:=by cases b <;> exact ⟨_,hl,rfl,n,rfl⟩
    wp_walk using wpAny_loadPart' hl;(refine wpAny_stack_any fun st=>wpAny_pure ?_);split
    · rename_i c _ _ _ _ _;cases (c==Value.type "enumerate") <;> (wp_walk using wpAny_loadPart' hl,zcw hL;exact ⟨_,rfl,h⟩)
    · wp_walk using wpAny_loadPart' hl,zcw hL;exact ⟨_,rfl,h⟩
theorem yd8 {b:Bool} {h:Heap} {l:Addr} {xs:Array Value} (x:zbG b h l xs):∃n dct sl,h.get? l=some { cls:=.type (if b then "tuple" else "list"),dict:=dct,data:=.seq xs n,slots:=sl }:=by
  cases b <;> obtain ⟨⟨c,dct,dt,sl⟩,e,hc,n,hd⟩:=x
  · replace hc:c = .type "list":=hc
    replace hd:dt = .seq xs n:=hd
    subst hc hd;exact ⟨n,dct,sl,e⟩
  · replace hc:c = .type "tuple":=hc
    replace hd:dt = .seq xs n:=hd
    subst hc hd;exact ⟨n,dct,sl,e⟩
section
variable {X:Cx}
def zht (K:PySem.W.Frag) (ta:TA):TI:=fun σ H R=>ta σ H fun vs H1=>∃b a,vs=[.ref a]∧(∃xs,SqB K b H1 a xs)∧R (Ite K b a) H1
theorem ygC {pins:List (Addr×Obj)} {σ:St} {H:Hp} {s:Shared} {R:It→Hp→Prop} {elts:List Expr} {kk:Nat} {tpos:Pos} {b:Bool} {l:Addr} {xs:List V} (I:Inv X pins σ H s) (h1:SqB X.K b H l xs) (q:R (Ite X.K b l) H) :
    wpAny (model X.prog X.w) X.A (call (.type "enumerate") [.ref l]) (fun v s1=>wpAny (model X.prog X.w) X.A (pyIter v) (PIE X pins σ (.Tuple elts kk tpos) R) X.xe s1) X.xe s:=by
  obtain ⟨us,r1,p1,z1⟩:=I.seqB h1
  obtain ⟨m,dct,sl,hl⟩:=yd8 p1
  refine callType_new F.called_enumerate (by decide) (F.typeCall_enumerate_1 _) (F.newCall_enumerate_1 _) (fun obj=>F.args_object_init_2 obj _) F.entry_enumerate_new (yee b l us.toArray m dct sl) ⟨hl,?_⟩
  generalize hn:s.heap.objs.size=n
  have s1:(s.heap.push (yav b l)).objs.size=n+1:=by rw [Heap.size_push,hn]
  generalize hG:(s.heap.push (yav b l)).push { cls:=.type "enumerate",data:=.fields #[.none,.bool false,.ref n,rawInt 0,.none,.none] }=G
  have old:∀c o,s.heap.get? c=some o→G.get? c=some o:=fun c o e=>hG ▸ Heap.get?_push_of_some _ (Heap.get?_push_of_some _ e)
  have ge:IsEnum G (n+1) n 0 .none:=by
    have e:G.get? (s.heap.push (yav b l)).objs.size=some { cls:=.type "enumerate",data:=.fields #[.none,.bool false,.ref n,rawInt 0,.none,.none] }:=hG ▸ Heap.get?_push_size _ rfl
    rw [s1] at e;exact e
  have gi:G.get? n=some (yav b l):=by
    have e:G.get? s.heap.objs.size=some (yav b l):=hG ▸ Heap.get?_push_of_some _ (Heap.get?_push_size _ rfl)
    rw [hn] at e;exact e
  rw [s1]
  refine ⟨⟨_,ge,rfl⟩,wpAny_pyIter_enum ge ?_⟩
  have I1:Inv X pins σ H { s with heap:=G }:=I.kept (t':=s.toks) old
  refine ⟨n+1,[n+1,n],_,_,H,rfl,I1,yfB b (n+1) n l,⟨⟨_,ge⟩,ycJ _ _ _ _ gi⟩,fun c hc=>?_,q⟩
  have le:s.heap.objs.size≤c:=by
    rw [hn]
    simp only [List.mem_cons,List.not_mem_nil,or_false] at hc
    show @LE.le Nat _ n c
    rcases hc with e|e <;> (have e':@Eq Nat c _:=e;omega)
  exact I.fpOk le (I.hok.fresh le)
theorem zco {a:Expr} {ta:TA} {p pos:Pos} {elts:List Expr} {kk:Nat} {tpos:Pos} (hg:Gl X "enumerate") (hm:X.mg "enumerate"=none) (ha:PA X [a] ta) (hs:starEach [a] X.env=[(false,eval a X.env)]:=by rfl) :
    PI X (.Tuple elts kk tpos) (.Call (.Name "enumerate" p) [a] [] pos) (zht X.K ta):=by
  intro pins s σ H R I h
  refine Call_ (ybO I hg hm (u:=.type "enumerate") boot_enumerate (PyProof.Rows.callWith_type1 (thn (ha pos pins s σ H _ I h) fun us s1 ⟨vs,H1,I1,r1,q1⟩=>?_) hs rfl))
  obtain ⟨b,a,e,⟨xs,h1⟩,q⟩:=q1
  subst e
  cases r1 with
  | cons r rr =>
    cases rr
    cases r
    exact ygC I1 h1 q
end
structure Seqs (J:It) (n:Nat) (G:Hp→Prop) (y:Nat→V→Hp→Hp→Prop):Prop where
  go:∀i H,i<n→G H→J.go i H
  stop:∀H,G H→J.stop n H
  yld:∀i H x H',i<n→G H→J.yld i H x H'→y i x H H'
theorem yaR {K:PySem.W.Frag} {a:Addr} {xs:List V}:Seqs (Itl K a) xs.length (fun H=>SqL K H a xs) (fun i x H H'=>H'=H∧xs[i]?=some x) :=
  ⟨fun i H hi g=>⟨xs,xs[i],g,by simp [hi]⟩,fun H g=>⟨xs,g,Nat.le_refl _⟩,fun i H x H' hi g q=>⟨q.1,q.2 xs g⟩⟩
theorem ybL {K:PySem.W.Frag} {a:Addr} {xs:List V}:Seqs (Itt K a) xs.length (fun H=>SqT K H a xs) (fun i x H H'=>H'=H∧xs[i]?=some x) :=
  ⟨fun i H hi g=>⟨xs,xs[i],g,by simp [hi]⟩,fun H g=>⟨xs,g,Nat.le_refl _⟩,fun i H x H' hi g q=>⟨q.1,q.2 xs g⟩⟩
theorem zaK {lo:Int} {n:Nat}:Seqs (Itr lo n) n (fun _=>True) (fun i x H H'=>H'=H∧x = .int (lo+i)) :=
  ⟨fun i H hi _=>hi,fun H _=>Nat.le_refl _,fun i H x H' hi _ q=>q⟩
theorem yga {K:PySem.W.Frag} {b1 b2:Bool} {l1 l2:Addr} {xs ys:List V}:Seqs (Itz K b1 b2 l1 l2) (min xs.length ys.length) (fun H=>SqB K b1 H l1 xs∧SqB K b2 H l2 ys)
    (fun i x H H'=>∃T u v,x = .ref T∧xs[i]?=some u∧ys[i]?=some v∧H T=none∧H'=upd H T (.tup [u,v])) :=
  ⟨fun i H hi g=>⟨xs,ys,xs[i]'(by omega),ys[i]'(by omega),g.1,g.2,by simp,by simp⟩,
   fun H g=>⟨xs,ys,g.1,g.2,by omega⟩,
   fun i H x H' hi g ⟨T,u,v,e1,e2,e3,e4,e5⟩=>⟨T,u,v,e1,e4 xs g.1,e5 ys g.2,e2,e3⟩⟩
theorem zbC {K:PySem.W.Frag} {b:Bool} {l:Addr} {xs:List V}:Seqs (Ite K b l) xs.length (fun H=>SqB K b H l xs)
    (fun i x H H'=>∃T u,x = .ref T∧xs[i]?=some u∧H T=none∧H'=upd H T (.tup [.int i,u])) :=
  ⟨fun i H hi g=>⟨xs,xs[i],g,by simp [hi]⟩,fun H g=>⟨xs,g,Nat.le_refl _⟩,fun i H x H' hi g ⟨T,u,e1,e2,e3,e4⟩=>⟨T,u,e1,e4 xs g,e2,e3⟩⟩
theorem zbb {J:It} {n:Nat} {G:Hp→Prop} {y:Nat→V→Hp→Hp→Prop} (S:Seqs J n G y) {g:TG} {tb:TS} {D:Ends} {σ:St} {H:Hp} (Pv:Nat→St→Hp→Prop) (h0:Pv 0 σ H) (hl:∀i σ H,i≤n→Pv i σ H→G H)
    (hs:∀i x σ H H',i<n→Pv i σ H→y i x H H'→g x σ H' fun σ2 H2=>tb { D with nx:=Pv (i+1),ct:=Pv (i+1),bk:=D.nx } σ2 H2) (hd:∀σ H,Pv n σ H→D.nx σ H) :
    ∃W:Nat→Nat→St→Hp→Prop,(∃m,W 0 m σ H)∧∀i m σ H,W i m σ H→
      (J.stop i H∧D.nx σ H)∨(J.go i H∧∃N:St→Hp→Prop,(∀σ' H',N σ' H'→∃m',m'<m∧W (i+1) m' σ' H')∧∀x H',J.yld i H x H'→g x σ H' fun σ2 H2=>tb { D with nx:=N,ct:=N,bk:=D.nx } σ2 H2):=by
  refine ⟨fun i m σ H=>m=n-i∧i≤n∧Pv i σ H,⟨n,by simp,Nat.zero_le _,h0⟩,?_⟩
  rintro i m σ H ⟨rfl,hi,p⟩
  by_cases hlt:i<n
  · exact .inr ⟨S.go i H hlt (hl i σ H hi p),Pv (i+1),fun σ' H' p'=>⟨n-(i+1),by omega,rfl,hlt,p'⟩,fun x H' q=>hs i x σ H H' hlt p (S.yld i H x H' hlt (hl i σ H hi p) q)⟩
  · have e:i=n:=by omega
    subst e
    exact .inl ⟨S.stop H (hl _ σ H hi p),hd σ H p⟩
theorem zar {J:It} {n:Nat} {G:Hp→Prop} {y:Nat→V→Hp→Hp→Prop} (S:Seqs J n G y) {σc:St} {g:TG} {ti:TT} {te:TE} {H:Hp} {Fn:List V→Hp→Prop} (Pv:Nat→List V→Hp→Prop) (h0:Pv 0 [] H) (hl:∀i acc H,i≤n→Pv i acc H→G H)
    (hz:∀i acc H,i<n→Pv i acc H→acc.length<sizeLine)
    (hs:∀i acc x H H',i<n→Pv i acc H→y i x H H'→g x σc H' fun σ2 H2=>ti σ2 H2 fun b H3=>if b=true then te σ2 H3 fun v H4=>Pv (i+1) (acc++[v]) H4 else Pv (i+1) acc H3)
    (hd:∀acc H,Pv n acc H→Fn acc H) :
    ∃W:zg7,(∃m,W 0 m [] H)∧∀i m acc H,W i m acc H→
      (J.stop i H∧Fn acc H)∨
      (J.go i H∧acc.length<sizeLine∧∃N:List V→Hp→Prop,(∀acc' H',N acc' H'→∃m',m'<m∧W (i+1) m' acc' H')∧∀x H',J.yld i H x H'→g x σc H' fun σ2 H2=>ti σ2 H2 fun b H3=>if b=true then te σ2 H3 fun v H4=>N (acc++[v]) H4 else N acc H3):=by
  refine ⟨fun i m acc H=>m=n-i∧i≤n∧Pv i acc H,⟨n,by simp,Nat.zero_le _,h0⟩,?_⟩
  rintro i m acc H ⟨rfl,hi,p⟩
  by_cases hlt:i<n
  · exact .inr ⟨S.go i H hlt (hl i acc H hi p),hz i acc H hlt p,Pv (i+1),fun acc' H' p'=>⟨n-(i+1),by omega,rfl,hlt,p'⟩,fun x H' q=>hs i acc x H H' hlt p (S.yld i H x H' hlt (hl i acc H hi p) q)⟩
  · have e:i=n:=by omega
    subst e
    exact .inl ⟨S.stop H (hl _ acc H hi p),hd acc H p⟩
end L2
end
section
-- text: ExtF
namespace L2
open PySem PySem.Spec PyProof.Rows
section
variable {X:Cx}
def CDv (i j:Int):Prop:=0<j∧j<2^64
theorem CDv.log {i j:Int} (h:CDv i j):j.natAbs.log2<9000:=by
  obtain ⟨h1,h2⟩:=h
  have h0:j.natAbs≠0:=by omega
  have:j.natAbs<2^64:=by omega
  exact Nat.lt_of_lt_of_le ((Nat.log2_lt h0).mpr this) (by decide)
theorem ycq:OpR X (binaryOp .FloorDiv) (rI CDv fun i j=>.int (i/j)):=opI fun i j _ _ _ _ _ hc q=>by
  have h1:(0:Int)<j:=hc.1
  exact floordiv_int (by omega) (by rw [Int.fdiv_eq_ediv_of_nonneg i (by omega)];exact q) (.inl (PyProof.noPylong_of_log2 hc.log))
def CDvB (i j:Int):Prop:=0<j∧j<2^1000
theorem CDvB.log {i j:Int} (h:CDvB i j):j.natAbs.log2<9000:=by
  obtain ⟨h1,h2⟩:=h
  have h0:j.natAbs≠0:=by omega
  have:j.natAbs<2^1000:=by omega
  exact Nat.lt_of_lt_of_le ((Nat.log2_lt h0).mpr this) (by decide)
theorem zgI:OpR X (binaryOp .FloorDiv) (rI CDvB fun i j=>.int (i/j)):=opI fun i j _ _ _ _ _ hc q=>by
  have h1:(0:Int)<j:=hc.1
  exact floordiv_int (by omega) (by rw [Int.fdiv_eq_ediv_of_nonneg i (by omega)];exact q) (.inl (PyProof.noPylong_of_log2 hc.log))
theorem ycR:OpR X (inplaceOp .FloorDiv) (rI CDv fun i j=>.int (i/j)):=opI fun i j _ _ _ _ _ hc q=>by
  have h1:(0:Int)<j:=hc.1
  exact ifloordiv_int (by omega) (by rw [Int.fdiv_eq_ediv_of_nonneg i (by omega)];exact q) (.inl (PyProof.noPylong_of_log2 hc.log))
theorem ygR:OpR X (binaryOp .Mult) (rI IntMulOk fun i j=>.int (i*j)):=opI fun _ _ _ _ _ _ _ hc q=>mul_int q hc
def rNeE (K:PySem.W.Frag):R2:=fun x y H Q=>∃a b xs,x = .ref a∧y = .ref b∧SqL K H a xs∧SqL K H b []∧Q (.bl (!xs.isEmpty)) H
theorem ygp (hu:X.A.units<cLine):OpR X (compareOp .NotEq) (rNeE X.K):=by
  intro pins s σ H x y v u Q I rx ry h
  obtain ⟨a,b,xs,rfl,rfl,ha,hb,q⟩:=h
  cases rx;cases ry
  obtain ⟨us,r1,p1,z1⟩:=I.list ha
  obtain ⟨vs,r2,p2,z2⟩:=I.list hb
  cases r2
  cases xs with
  | nil =>
    cases r1
    exact SeqAt.RcNeAt.lists (e:=fun _=>true) p1.isList p2.isList rfl hu (fun j h1 _=>absurd h1 (by simp)) _ _ _ _ ⟨.bl false,H,I,rfl,q⟩
  | cons x xs =>
    cases r1
    exact SeqAt.RcNeAt.lists_lengths p1.isList p2.isList (by simp) hu _ _ _ _ ⟨.bl true,H,I,rfl,q⟩
def tRev (K:PySem.W.Frag) (te:TE):TE:=fun σ H Q=>te σ H fun x H1=>∃a xs,x = .ref a∧SqL K H1 a xs∧∀p,H1 p=none→Q (.ref p) (upd H1 p (.lst xs.reverse))
theorem yhj {e:Expr} {te:TE} {p0 p1 p2 pos:Pos} {j} (he:PE X e te):PE X (.Subscript e (.Slice none none (some (.UnaryOp .USub (.Constant (.int 1) j p0) p1)) p2) pos) (tRev X.K te):=by
  intro pins s σ H Q I h
  refine Subscript_ (thn (he pins s σ H _ I h) fun v s1 ⟨x,H1,I1,r1,q1⟩=>?_)
  obtain ⟨a,xs,rfl,hx,q⟩:=q1
  cases r1
  refine wpAny_Slice ?_
  rw [evalPart_none]
  refine wpAny_pure ?_
  refine wpAny_pure ?_
  rw [evalPart_some]
  refine thn ((zeN yc7 (yac (X:=X))) pins s1 σ H1 (fun v H'=>v = .int (-1)∧H'=H1) I1 ⟨1,rfl,rfl,rfl⟩) fun st s2 ⟨v,H2,I2,r2,e1,e2⟩=>?_
  subst e1 e2
  obtain ⟨t,rfl⟩:=r2
  have I4:Inv X pins σ H2 { s2 with heap:=s2.heap.push { cls:=.type "slice",data:=.fields #[.none,.none,.int (-1) t] } }:=I2.kept (t':=s2.toks) fun b ob q=>Heap.get?_push_of_some _ q
  obtain ⟨its,r,ht,hz⟩:=I4.list hx
  have hlen:=r.length
  show wpAny (model X.prog X.w) X.A (subscriptTail e _ (.ref a) (.ref s2.heap.objs.size)) (EP X pins σ Q) X.xe { s2 with heap:=s2.heap.push { cls:=.type "slice",data:=.fields #[.none,.none,.int (-1) t] } }
  refine tail_any (ops:=[.ref a,.ref s2.heap.objs.size]) ht.isList.typeIs slot_list_getitem.lookup ?_ (by with_unfolding_all rfl)
  refine wpAny_getItem_list_slice ht.isList (Heap.IsSliceOf.new ..) .none .none (.int (-1) t) (by simp) ?_ (by rw [List.size_toArray];omega)
  rw [PySem.W.krv_pick]
  refine ⟨.ref _,_,I4.laid (t':=s2.toks) (o:=.lst xs.reverse) (fun b ob q=>Heap.get?_push_of_some _ q) (Nat.le_refl _) ?_,rfl,q _ (I4.hok.fresh (Nat.le_refl _))⟩
  exact ⟨by rw [List.length_reverse];exact hz,its.reverse,0,r.reverse,Heap.get?_push_size _ rfl⟩
theorem zc8:∀ {bs:List Bool} {us:List Value},Vals (bs.map V.bl) us→us=bs.map Value.bool
  | [],_,.nil=>rfl
  | b::bs,_,.cons r t=>by cases r;rw [zc8 t];rfl
theorem yfL (bs:List Bool):(List.range bs.length).all (fun i=>bs.getD i true)=bs.all id:=by
  induction bs with
  | nil=>rfl
  | cons b bs ih =>
    rw [List.length_cons,List.range_succ_eq_map,List.all_cons,List.all_cons,List.all_map]
    show ((b::bs).getD 0 true&&_)=_
    rw [List.getD_cons_zero]
    congr 1
def yhn (K:PySem.W.Frag) (f:List Bool→Bool):List V→Hp→VK→Prop:=fun xs H Q=>∃a bs,xs=[.ref a]∧SqL K H a (bs.map V.bl)∧Q (.bl (f bs)) H
theorem zee {P:Program} {w:World} {A:Around} {bs:List Bool}:TruthOf P w A (fun i v=>(bs.map Value.bool).toArray[i]?=some v) (fun i=>bs.getD i true):=by
  intro i v s Q E hv q
  have hv':bs[i]?.map Value.bool=some v:=by simpa using hv
  cases e:bs[i]? with
  | none=>rw [e] at hv';cases hv'
  | some b =>
    rw [e] at hv';cases hv'
    have e2:bs.getD i true=b:=by simp [List.getD,e]
    have q':Q (bs.getD i true) s:=q
    rw [e2] at q'
    exact wpAny_truthy_bool q'
theorem zdt (hc:X.calm=true):zbk X (.builtin "all") (yhn X.K fun bs=>bs.all id):=by
  intro pins s σ H xs us Q I r h
  obtain ⟨a,bs,rfl,ha,q⟩:=h
  obtain ⟨u,rfl,rx⟩:=zcg r
  cases rx
  obtain ⟨its,r1,p1,z1⟩:=I.list ha
  have e:=zc8 r1
  subst e
  refine call_all_walk (wpAny_pyIter_list p1.isList ?_)
  have hh:X.A.in1.handled=none:=I.ok.hd hc
  have ne:a≠s.heap.objs.size:=fun z=>by obtain ⟨o,n,e,_⟩:=p1;have l:s.heap.objs.size≥Nat.succ a:=Heap.lt_size e;have z':@Eq Nat a s.heap.objs.size:=z;omega
  refine ⟨_,_,_,_,_,_,_,rfl,Walks.list hh s.heap.objs.size a ne _,⟨⟨_,Heap.get?_push_size _ rfl,rfl,rfl⟩,p1.isList.push _⟩,zee,fun h' tk k=>?_⟩
  have I1:Inv X pins σ H { s with heap:=h',toks:=tk }:=I.kept fun b o e=>k b o (by simp only [List.mem_singleton];exact Nat.ne_of_lt (Heap.lt_size e)) (Heap.get?_push_of_some _ e)
  refine ⟨.bl _,H,I1,?_,q⟩
  show Value.bool _=Value.bool _
  congr 1
  have:=yfL bs
  simpa using this
def yfJ (K:PySem.W.Frag) (H:Hp):V→String→Prop
  | .non,T=>T = "NoneType"
  | .bl _,T=>T = "bool"
  | .int _,T=>T = "int"
  | .str _,T=>T = "str"
  | .ref a,T=>(T = "list"∧∃xs,SqL K H a xs)∨(T = "tuple"∧∃xs,SqT K H a xs)
  | _,_=>False
def subK (T U:String):Bool:=T==U||(T=="bool"&&U=="int")
def rIsi (K:PySem.W.Frag) (U:String):List V→Hp→VK→Prop:=fun xs H Q=>∃x T,xs=[x,.ty U]∧yfJ K H x T∧Q (.bl (subK T U)) H
theorem yb6 {T U:String} (h:subK T U=false):(Value.type T==Value.type U)=false:=by
  have:T≠U:=fun e=>by subst e;simp [subK] at h
  simpa using this
theorem ydm {U:String} (hty:typeOf (.type U)=pure (.type "type")) (hs:∀T∈["NoneType","bool","int","str","list","tuple"],isSubtype (.type T) (.type U)=pure (subK T U)):zbk X (.builtin "isinstance") (rIsi X.K U):=by
  intro pins s σ H xs us Q I r h
  obtain ⟨x,T,rfl,hk,q⟩:=h
  obtain ⟨u,w',rfl,rx,ry⟩:=zgY r
  cases ry
  have yes:∀ {v:Value},subK T U=true→s.TypeIs v T→T∈["NoneType","bool","int","str","list","tuple"]→wpAny (model X.prog X.w) X.A (call (.builtin "isinstance") [v,.type U]) (EP X pins σ Q) X.xe s:=fun {v} hb ht hm =>
    call_isinstance_yes ht hty (by rw [hs T hm,hb]) ⟨.bl true,H,I,rfl,by rw [←hb];exact q⟩
  have no:∀t,subK T U=false→EP X pins σ Q (.bool false) { s with toks:=t }:=fun t hb=>⟨.bl false,H,I.tok _,rfl,by rw [←hb];exact q⟩
  cases x with
  | non =>
    cases rx;obtain rfl:T = "NoneType":=hk
    cases hb:subK "NoneType" U with
    | true=>exact yes hb rfl (by simp)
    | false=>exact call_isinstance (isinstance_false_none (yb6 hb) hty (by rw [hs _ (by simp),hb])) (no _ hb)
  | bl b =>
    cases rx;obtain rfl:T = "bool":=hk
    cases hb:subK "bool" U with
    | true=>exact yes hb rfl (by simp)
    | false=>exact call_isinstance (isinstance_false_bool (yb6 hb) hty (by rw [hs _ (by simp),hb])) (no _ hb)
  | int i =>
    obtain ⟨t,rfl⟩:=rx;obtain rfl:T = "int":=hk
    cases hb:subK "int" U with
    | true=>exact yes hb (typeIs_int s i t) (by simp)
    | false=>exact call_isinstance (isinstance_false_int (yb6 hb) hty (by rw [hs _ (by simp),hb])) (no _ hb)
  | str i =>
    obtain ⟨t,rfl⟩:=rx;obtain rfl:T = "str":=hk
    cases hb:subK "str" U with
    | true=>exact yes hb rfl (by simp)
    | false=>exact call_isinstance (isinstance_false_str (yb6 hb) hty (by rw [hs _ (by simp),hb])) (no _ hb)
  | ref a =>
    cases rx
    rcases hk with ⟨rfl,xs,hx⟩ | ⟨rfl,xs,hx⟩
    · obtain ⟨its,r1,p1,z1⟩:=I.list hx
      cases hb:subK "list" U with
      | true=>exact yes hb p1.isList.typeIs (by simp)
      | false=>exact call_isinstance (isinstance_false_list (yb6 hb) hty (by rw [hs _ (by simp),hb])) ⟨let ⟨o,e,c,_⟩:=p1.isList;⟨o,e,c⟩,no _ hb⟩
    · obtain ⟨its,r1,p1,z1⟩:=I.tuple hx
      cases hb:subK "tuple" U with
      | true=>exact yes hb (show s.TypeIs (.ref a) "tuple" from let ⟨o,e,c,_⟩:=p1;⟨o,e,c⟩) (by simp)
      | false=>exact call_isinstance (isinstance_false_tuple (yb6 hb) hty (by rw [hs _ (by simp),hb])) ⟨let ⟨o,e,c,_⟩:=p1;⟨o,e,c⟩,no _ hb⟩
  | _=>exact False.elim hk
theorem ygX:zbk X (.builtin "isinstance") (rIsi X.K "int"):=ydm (by rfl) (by intro T hT;simp only [List.mem_cons,List.not_mem_nil,or_false] at hT;rcases hT with rfl|rfl|rfl|rfl|rfl|rfl <;> (rw [isSubtype_type];kernel_rfl))
theorem zf3:zbk X (.builtin "isinstance") (rIsi X.K "bool"):=ydm (by rfl) (by intro T hT;simp only [List.mem_cons,List.not_mem_nil,or_false] at hT;rcases hT with rfl|rfl|rfl|rfl|rfl|rfl <;> (rw [isSubtype_type];kernel_rfl))
theorem yft:zbk X (.builtin "isinstance") (rIsi X.K "tuple"):=ydm (by rfl) (by intro T hT;simp only [List.mem_cons,List.not_mem_nil,or_false] at hT;rcases hT with rfl|rfl|rfl|rfl|rfl|rfl <;> (rw [isSubtype_type];kernel_rfl))
def Itd (hi:Int) (n:Nat):It:=⟨fun i _=>i<n,fun i H x H'=>H'=H∧x = .int (hi-i),fun i _=>n≤i⟩
theorem yfG {P:Program} {w:World} {K:PySem.W.Frag} {tg:Expr} (it:Addr) (hi:Int) (n:Nat):Turn P w K tg (Itd hi n) [it] it (fun i h=>IsRangeIter h it (hi+(i:Nat)*(-1)) ((n:Int)-(i:Nat)) (-1)) where
  mem:=by simp
  obj:=fun i h st b hb=>by
    have e:b=it:=by simpa using hb
    subst e
    exact ⟨_,st,fun v z=>by have z':Data.fields _=Data.cell v:=z;cases z'⟩
  keep:=fun i h h' st k=>k it (by simp) _ st
  item:=by
    intro X hP hw hK hc i pins s σ H E I hf st hg
    subst hP hw hK
    obtain ⟨f0,f1,f2,f3,f4,f5⟩:=hf it (by simp)
    have W:=Walks.range (prog:=X.prog) (w:=X.w) (I.ok.hd hc) it hi (-1) n
    refine W.item i s _ _ hg st fun v h' tk hv st' kk=>?_
    obtain ⟨t,rfl⟩:=hv
    have I1:Inv X pins σ H { s with heap:=h',toks:=tk }:=I.turned (fun b o hb e=>kk b o (by simpa using hb) e) f0 f1 f3 f4 f5
    refine ⟨_,rfl,zfN (s:={ s with heap:=h',toks:=tk }) (n:="range_iterator") st' rfl rfl (by decide) ⟨.int (hi-i),H,I1,⟨t,?_⟩,⟨rfl,rfl⟩,st',fun b hb=>(hf b hb).1⟩⟩
    congr 1;omega
  done:=by
    intro X hP hw hK hc i pins s σ H E I hf st hg
    subst hP hw hK
    obtain ⟨f0,f1,f2,f3,f4,f5⟩:=hf it (by simp)
    exact wpAny_pyNext_range_end (I.ok.hd hc) st (by have:n≤i:=hg;omega) fun h' eb=>⟨rfl,I.turned (t':=s.toks) (fun b o hb e=>eb b o hb e) f0 f1 f3 f4 f5⟩
  self:=fun _ _ _ _ _ st h=>wpAny_pyIter_rangeiter st h
theorem yeW {hi:Int} {n:Nat}:Seqs (Itd hi n) n (fun _=>True) (fun i x H H'=>H'=H∧x = .int (hi-i)) :=
  ⟨fun i H hi _=>hi,fun H _=>Nat.le_refl _,fun i H x H' hi _ q=>q⟩
def yhr (ta:TA):TI:=fun σ H R=>ta σ H fun vs H1=>∃i j:Int,vs=[.int i,.int j,.int (-1)]∧(-(2^62)≤i∧i<2^62∧-(2^62)≤j∧j<2^62)∧R (Itd i (i-j).toNat) H1
theorem ygP {a b c:Expr} {ta:TA} {tg:Expr} {p pos:Pos} (hg:Gl X "range") (hm:X.mg "range"=none) (ha:PA X [a,b,c] ta) (hs:starEach [a,b,c] X.env=(false,eval a X.env)::starEach [b,c] X.env:=by rfl) (hs2:(backTo pos (starEach [b,c] X.env)).any (·.1)=false:=by rfl) :
    PI X tg (.Call (.Name "range" p) [a,b,c] [] pos) (yhr ta):=by
  intro pins s σ H R I h
  refine Call_ (ybO I hg hm boot_range (PyProof.Rows.callWith_type1 (thn (ha pos pins s σ H _ I h) fun us s1 ⟨vs,H1,I1,r1,q1⟩=>?_) hs hs2))
  obtain ⟨i,j,e,⟨b1,b2,b3,b4⟩,q⟩:=q1
  subst e
  cases r1 with
  | cons r rr =>
    cases rr with
    | cons r' rr =>
      cases rr with
      | cons r'' rr =>
        cases rr
        obtain ⟨t,rfl⟩:=r
        obtain ⟨t',rfl⟩:=r'
        obtain ⟨t'',rfl⟩:=r''
        refine call_range_3 (by decide) ?_ (.inl (PyProof.noPylong_small (by decide)))
        refine wpAny_pyIter_range (IsRange.new ..) (PySem.W.small_down b1 b2 b3 b4) ?_
        generalize hG:s1.heap.push { cls:=.type "range",data:=.fields #[.int i t,.int j t',.int (-1) t''] }=G
        have I2:Inv X pins σ H1 { s1 with heap:=G }:=I1.kept (t':=s1.toks) fun b o e=>hG ▸ Heap.get?_push_of_some _ e
        refine ⟨G.objs.size,[G.objs.size],_,_,H1,rfl,I2.kept (t':=s1.toks) fun b o e=>Heap.get?_push_of_some _ e,yfG _ i (i-j).toNat,?_,fun b hb=>?_,q⟩
        · have e1:i+((0:Nat):Int)*(-1)=i:=by simp
          have e2:(((i-j).toNat:Nat):Int)-((0:Nat):Int)=Builtin.Range.rangeSize i j (-1):=by rw [PySem.W.rangeSize_downNat];simp
          show IsRangeIter _ _ (i+((0:Nat):Int)*(-1)) ((((i-j).toNat:Nat):Int)-((0:Nat):Int)) (-1)
          rw [e1,e2]
          exact Heap.get?_push_size _ rfl
        · have e:b=G.objs.size:=by simpa using hb
          subst e
          exact I2.fpOk (Nat.le_refl _) (I2.hok.fresh (Nat.le_refl _))
def tRng (ta:TA):TE:=fun σ H Q=>ta σ H fun vs H1=>∃j:Int,vs=[.int j]∧∀p,H1 p=none→Q (.ref p) (upd H1 p (.rng 0 j))
theorem ycQ {a:Expr} {ta:TA} {p pos:Pos} (hg:Gl X "range") (hm:X.mg "range"=none) (ha:PA X [a] ta) (hs:starEach [a] X.env=[(false,eval a X.env)]:=by rfl):PE X (.Call (.Name "range" p) [a] [] pos) (tRng ta):=by
  intro pins s σ H Q I h
  refine Call_ (ybO I hg hm boot_range (PyProof.Rows.callWith_type1 (thn (ha pos pins s σ H _ I h) fun us s1 ⟨vs,H1,I1,r1,q1⟩=>?_) hs rfl))
  obtain ⟨j,e,q⟩:=q1
  subst e
  cases r1 with
  | cons r rr =>
    cases rr
    obtain ⟨t,rfl⟩:=r
    exact call_range_1 ⟨.ref _,_,I1.laid (o:=.rng 0 j) (fun b o e=>Heap.get?_push_of_some _ e) (Nat.le_refl _) ⟨_,_,_,Heap.get?_push_size _ rfl⟩,rfl,q _ I1.fresh⟩
def intsFrom (lo:Int) (n:Nat):List V:=(List.range n).map fun (i:Nat)=>V.int (lo+(i:Int))
theorem zcC:∀ {xs:List V} {us:List Value},xs.length=us.length→(∀(i:Nat) x u,xs[i]?=some x→us[i]?=some u→RelV x u)→Vals xs us
  | [],[],_,_=>.nil
  | [],_::_,h,_=>by simp at h
  | _::_,[],h,_=>by simp at h
  | x::xs,u::us,h,g=>.cons (g 0 x u rfl rfl) (zcC (by simpa using h) fun i y v e1 e2=>g (i+1) y v (by simpa using e1) (by simpa using e2))
theorem zdI {lo:Int} {n:Nat} {acc:Array Value} (h:ItemsOf (fun i v=>∃t,v = .int (lo+i*1) t) acc n):Vals (intsFrom lo n) acc.toList:=by
  refine zcC (by simp [intsFrom,h.1]) fun i x u e1 e2=>?_
  obtain ⟨t,rfl⟩:=h.2 i u (by simpa using e2)
  have:x=V.int (lo+i):=by
    unfold intsFrom at e1
    rw [List.getElem?_map] at e1
    cases hr:(List.range n)[i]? with
    | none=>rw [hr] at e1;cases e1
    | some j =>
      rw [hr] at e1
      have:j=i:=by
        obtain ⟨h1,h2⟩:=List.getElem?_eq_some_iff.mp hr
        simpa using h2.symm
      subst this
      exact (Option.some.inj e1).symm
  subst this
  exact ⟨t,by simp⟩
theorem zbK (hc:X.calm=true):zbk X (.type "list") (fun xs H Q=>∃p lo hi,xs=[.ref p]∧H p=some (.rng lo hi)∧(-(2^62)≤lo∧lo<2^62∧-(2^62)≤hi∧hi<2^62)∧(hi-lo).toNat≤sizeLine∧∀l,H l=none→Q (.ref l) (upd H l (.lst (intsFrom lo (hi-lo).toNat)))):=by
  intro pins s σ H xs us Q I r h
  obtain ⟨p,lo,hi,rfl,hp,⟨b1,b2,b3,b4⟩,hz,q⟩:=h
  obtain ⟨u,rfl,rx⟩:=zcg r
  cases rx
  obtain ⟨t,u,v,e⟩:=I.hok p _ hp
  refine call_list_range (n:=(hi-lo).toNat) (I.ok.hd hc) e (small_one b1 b2 b3 b4) (by rw [rangeSize_one];split <;> omega) (by have:=sizeLine_eq;omega) fun h' tk acc c k ho hi'=>?_
  have rv:=zdI hi'
  refine ⟨.ref _,_,I.laid (t':=tk) k (Nat.le_refl _) (show ybr X.prog X.w _ h' _ (.lst (intsFrom lo (hi-lo).toNat)) from ⟨?_,acc.toList,c,rv,by simpa using ho⟩),rfl,q _ I.fresh⟩
  simpa [intsFrom] using hz
def Has (P:Program) (w:World) (K:PySem.W.Frag) (mg:Str→Option Value) (base:Heap) (n:Nat) (x:Str) (ps:List Str) (sp:Sp):Prop :=
  ∃f fd,FnOk P w K mg base CX0 n f fd ps sp∧yeG K fd ps []∧PySem.W.keepIn K (.ref f)=true∧mg x=some (.ref f)
theorem yad {n k:Nat} {x:Str} {ps:List Str} {sp:Sp} {e:Expr} {es:List Expr} {t:TA} {p pos:Pos} (h:Has X.prog X.w X.K X.mg X.base n x ps sp) (hr:Room k X.A) (hle:n≤k) (hg:Gl X x) (ha:PA X (e::es) t)
    (hdb:(x==("__debug__":Str))=false:=by decide) (he:starEach (e::es) X.env=(false,eval e X.env)::starEach es X.env:=by rfl) (hpl:(backTo pos (starEach es X.env)).any (·.1)=false:=by rfl) :
    PE X (.Call (.Name x p) (e::es) [] pos) (zgZ sp [] E0 t):=by
  obtain ⟨f,fd,F,B,kp,m⟩:=h
  exact ygz F (hr.mono hle) hg m kp B .nil zhw ha hdb he hpl
theorem yaW {c:TT} {tb:TS} {D:Ends} {σ:St} {H:Hp} (Pv:St→Hp→Prop) (μ:St→Hp→Nat) (h0:Pv σ H)
    (hs:∀σ H,Pv σ H→c σ H fun b H1=>if b=true then ∃N:St→Hp→Prop,(∀σ' H',N σ' H'→∃m',m' < μ σ H∧m'=μ σ' H'∧Pv σ' H')∧tb { D with nx:=N,ct:=N,bk:=D.nx } σ H1 else D.nx σ H1):yfu c tb D σ H:=by
  refine ⟨fun m σ H=>m=μ σ H∧Pv σ H,⟨_,rfl,h0⟩,?_⟩
  rintro m σ H ⟨rfl,p⟩
  exact hs σ H p
end
end L2
end
section
-- text: ExtG
namespace L2
open PySem PySem.Spec PyProof.Rows
section
variable {X:Cx}
theorem zaP:bootBuiltins "list"=some (.type "list"):=by decide +kernel
theorem yaA:bootBuiltins "tuple"=some (.type "tuple"):=by decide +kernel
theorem zcD:bootBuiltins "int"=some (.type "int"):=by decide +kernel
theorem zcq:bootBuiltins "bool"=some (.type "bool"):=by decide +kernel
theorem ycK:bootBuiltins "abs"=some (.builtin "abs"):=by decide +kernel
theorem zcQ:bootBuiltins "min"=some (.builtin "min"):=by decide +kernel
theorem ycB:bootBuiltins "max"=some (.builtin "max"):=by decide +kernel
theorem zgc (i:Int) (t:Tok):RelV (.int i) (.int i t):=⟨t,rfl⟩
theorem zfr {es:List Expr} {k:Nat} {t:TGs} {n:Nat} {pos:Pos} {K:PySem.W.Frag} (hK:X.K=K) (hc:X.calm=true) (h:PGs X es t)
    (hn:(assignEach es X.env).length=n:=by rfl) (hst:(assignEach es X.env).findIdx? (·.1)=none:=by rfl):PG X (.Tuple es k pos) (gTup K n t):=hK ▸ ya8 hc h hn hst
end
end L2
end
section
-- text: ExtH
namespace L2
open PySem PySem.Spec PyProof.Rows
theorem ye4 {prog:Program} {w:World} {A:Around} {E:Value→Shared→Prop} {s:Shared} {a:Addr} {xs:Array Value} {k:Nat} {sl:Array (Option Value)} {u:Tok} {Q:Value→Shared→Prop}
    (hx:s.heap.get? a=some { cls:=.type "list",dict:=none,data:=.seq xs k,slots:=sl }) (hA:A.handled=none)
    (h:∀h' tk e,Heap.NewExcOf s.heap h' e "AttributeError"→E (.ref e) { s with heap:=h',toks:=tk }) :
    wpAny (model prog w) A (getAttrBy (.ref a) (.str "keys" u) false) Q E s:=by
  have hmiss:typeLookup (.type "list") "keys"=pure none:=by rw [typeLookup_type,builtinLookup_eq_fast];kernel_rfl
  obtain ⟨hp,g,d,tk,os⟩:=s
  have hT:∀tk',(⟨hp,g,d,tk',os⟩:Shared).TypeIs (.ref a) "list":=fun _=>⟨_,hx,rfl⟩
  have f1:=sub_AttributeError
  have f3:=F.slot_list_getattribute.lookup
  have f4:=F.slot_list_getattribute.bind (.ref a)
  have f5:=am_list_getattr_none
  unfold getAttrBy
  repeat (any_goals (first|assumption|exact hT _|((with_reducible show wpAny _ _ (call (Value.builtin "list.__getattribute__") _ _) _ _ _);refine call_meets F.slot_list_getattribute (hT _) am_entry_list_getattribute (F.args_list_getattribute_2 _ _) (meets_getattribute_miss_list a xs k sl "keys" _ hmiss (by decide +kernel)) ⟨hx,hA,fun h' tk' e hx'=>?_⟩)|wp_step))
  obtain ⟨t',u',he⟩:=hx'.there
  show wpAny _ _ (getattributeRaised _ _ _ _ _ _ _) _ _ _
  unfold getattributeRaised
  repeat (any_goals (first|assumption|wp_step))
  exact h _ _ _ hx'.of
theorem zfv {prog:Program} {w:World} {A:Around} {E:Value→Shared→Prop} {s:Shared} {a:Addr} {xs:Array Value} {k:Nat} {sl:Array (Option Value)} {Q:Option Value→Shared→Prop}
    (hx:s.heap.get? a=some { cls:=.type "list",dict:=none,data:=.seq xs k,slots:=sl }) (hA:A.handled=none)
    (h:∀h' tk,(∀b o,s.heap.get? b=some o→h'.get? b=some o)→Q none { s with heap:=h',toks:=tk }) :
    wpAny (model prog w) A (getAttr? (.ref a) "keys") Q E s:=by
  have f1:=sub_AttributeError
  unfold getAttr? getAttrBy?
  refine wpAny_bind (wpAny_mkText ?_)
  refine wpAny_bind ?_
  refine wpAny_attempt ?_
  refine ye4 (by exact hx) hA fun h' tk e ne=>?_
  obtain ⟨oe,_,he,hc,_⟩:=ne.there
  show wpAny _ _ (isInstance (.ref e) (.type "AttributeError") >>= _) _ _ _
  refine wpAny_bind (wpAny_isInstance ⟨_,he,hc⟩ f1 ?_)
  exact wpAny_pure (h _ _ ne.keeps)
theorem zbV:entryFor table "dict.update.loop"=some Builtin.«dict.update.loop»:=entryFor_of_fast (by kernel_rfl)
theorem za8:plainId "dict.update.loop"=true:=by decide +kernel
section
variable {prog:Program} {w:World} {K:Type} [DecidableEq K] {knd:KeyKind prog w K} {A:Around} {R:Result→Shared→Prop} {I ax d:Addr}
theorem yfy (hh:A.in1.handled=none) (items:Array Value) (more:List (K×Value)) (hne:ax≠I) (hdI:d≠I) (hda:d≠ax) (hsz:items.size≤sizeLine) (hml:more.length=items.size)
    (tp:Nat→Addr) (hit:∀j,j<items.size→items[j]?=some (.ref (tp j))) (htd:∀j,j<items.size→tp j≠d∧tp j≠I) :
    ∀(k i:Nat) (s:Shared) (t:Tok) (kvs:List (K×Value)),items.size-i=k→i≤items.size→s.heap.IsListIter I ax i∧s.heap.IsList ax items→s.heap.DictOf knd d kvs→kvs.length≤i→
    (∀j kv,more[j]?=some kv→∃key,knd.is kv.1 key=true∧s.heap.IsTuple (tp j) #[key,kv.2])→
    (∀s',s'.heap.DictOf knd d (merged kvs (more.drop i))→(∀b o,b≠I→b≠d→s.heap.get? b=some o→s'.heap.get? b=some o)→(∃h' tk,s'={ s with heap:=h',toks:=tk })→R (.ok (.ret .none)) s')→
    codeAny (model prog w) A (.builtin "dict.update.loop" ⟨[.ref d,.ref I,.int (i:Int) t,.none],[]⟩) R s:=by
  have W:=Walks.list (prog:=prog) (w:=w) hh I ax hne items
  intro k
  induction k with
  | zero =>
    intro i s t kvs hk hi hst hd hkl hpairs hR
    have hin:i=items.size:=by omega
    subst hin
    refine codeAny_builtin zbV ?_
    rw [Around.under_plainId za8 _]
    show wpAny _ A.in1 (pyNext (.ref I) >>= _) _ _ s
    refine wpAny_bind (W.done s _ _ hst fun h' tk hk'=>?_)
    have hm:more.drop items.size=[]:=List.drop_of_length_le (by omega)
    rw [hm] at hR
    have hd':h'.DictOf knd d kvs:=hd.at fun o e=>hk' d o (by simp [hdI]) e
    refine wpAny_pure (hR { s with heap:=h',toks:=tk } hd' (fun b o h1 h2 e=>hk' b o (by simp [h1]) e) ⟨_,_,rfl⟩)
  | succ k ih =>
    intro i s t kvs hk hi hst hd hkl hpairs hR
    have hlt:i<items.size:=by omega
    refine codeAny_builtin zbV ?_
    rw [Around.under_plainId za8 _]
    show wpAny _ A.in1 (pyNext (.ref I) >>= _) _ _ s
    refine wpAny_bind (W.item i s _ _ hlt hst fun v h' tk hP hst' hk'=>?_)
    rw [hit i hlt] at hP
    cases hP
    obtain ⟨kv,hkv⟩:∃kv,more[i]?=some kv:=⟨more[i]'(by omega),List.getElem?_eq_getElem (by omega)⟩
    obtain ⟨key,hkey,htup⟩:=hpairs i kv hkv
    have htup':h'.IsTuple (tp i) #[key,kv.2]:=htup.at fun o e=>hk' _ o (by simp [(htd i hlt).2]) e
    obtain ⟨ot,hot,hoc,nn,hod⟩:=id htup'
    have hd':h'.DictOf knd d kvs:=hd.at fun o e=>hk' d o (by simp [hdI]) e
    refine wpAny_bind (wpAny_holding ?_)
    refine wpAny_bind (wpAny_tryCatch ?_)
    unfold Builtin.Dict.pairItems
    refine wpAny_bind (wpAny_typeOf ⟨_,hot,hoc⟩ ?_)
    rw [if_pos (by decide)]
    refine wpAny_bind (wpAny_seqItems hot hod ?_)
    refine wpAny_pure ?_
    show wpAny _ A.in1 (holding [key,kv.2] (dictSet d key kv.2)) _ _ _
    refine wpAny_holding (wpAny_dictSet_pairs (hsz:=by omega) hkey hd' fun h2 hd2 hs2=>?_)
    have step:more.drop i=kv::more.drop (i+1):=by
      rw [List.drop_eq_getElem_cons (by omega)]
      congr 1
      exact Option.some.inj ((List.getElem?_eq_getElem (by omega)).symm.trans hkv)
    refine wpAny_pure ⟨plainId_quiet za8 _,ih (i+1) _ _ (stored kvs kv.1 kv.2) (by omega) hlt ?_ hd2 ?_ (fun j kv' hj=>?_) fun s' h1 h2' h3=>hR s' ?_ (fun b o n1 n2 e=>h2' b o n1 n2 (hs2.extBut b o n2 (hk' b o (by simp [n1]) e))) ?_⟩
    · exact W.frame _ _ _ hst' fun b hb o e=>hs2.extBut b o (by simp only [List.mem_cons,List.not_mem_nil,or_false] at hb;rcases hb with rfl|rfl;exact Ne.symm hdI;exact Ne.symm hda) e
    · have:=stored_length_le kvs kv.1 kv.2;omega
    · obtain ⟨key',a1,a2⟩:=hpairs j kv' hj
      have hj':j<items.size:=by rw [←hml];exact (List.getElem?_eq_some_iff.mp hj).1
      exact ⟨key',a1,(a2.at fun o e=>hk' _ o (by simp [(htd j hj').2]) e).at fun o e=>hs2.extBut _ o (htd j hj').1 e⟩
    · rw [step];exact h1
    · obtain ⟨h4,tk4,rfl⟩:=h3;exact ⟨_,_,rfl⟩
end
section
variable {X:Cx}
theorem Vals.getR:∀ {xs:List V} {us:List Value},Vals xs us→∀(j:Nat) x u,xs[j]?=some x→us[j]?=some u→RelV x u
  | _,_,.nil,j,x,u,e,_=>by simp at e
  | _::_,_::_,.cons r t,0,x,u,e1,e2=>by simp at e1 e2;subst e1 e2;exact r
  | _::_,_::_,.cons r t,j+1,x,u,e1,e2=>Vals.getR t j x u (by simpa using e1) (by simpa using e2)
def zgP:List V→Hp→VK→Prop:=fun xs H Q=>∃(a:Addr) (ts:List Addr) (kvs:List (Key×V)),xs=[.ref a]∧H a=some (.lst (ts.map V.ref))∧ts.length=kvs.length∧kvs.length≤sizeLine∧
  (∀(j:Nat) t kv,ts[j]?=some t→kvs[j]?=some kv→H t=some (.tup [kV kv.1,kv.2]))∧(kvs.map (·.1)).Nodup∧∀D,H D=none→Q (.ref D) (upd H D (.dK kvs))
theorem ydb {P:Program} {w:World} {pins:List (Addr×Obj)} {σ:St} {H:Hp} {s:Shared} (I:Inv X pins σ H s):∀(ts:List Addr) (kvs:List (Key×V)),ts.length=kvs.length→(∀(j:Nat) t kv,ts[j]?=some t→kvs[j]?=some kv→H t=some (.tup [kV kv.1,kv.2]))→
    ∃vs:List (Key×Value),KV kvs vs∧vs.length=ts.length∧∀(j:Nat) kv t,vs[j]?=some kv→ts[j]?=some t→∃key,(yaP P w).is kv.1 key=true∧s.heap.IsTuple t #[key,kv.2]
  | [],[],_,_=>⟨[],.nil,rfl,fun j kv t e=>by simp at e⟩
  | [],_::_,h,_=>by simp at h
  | _::_,[],h,_=>by simp at h
  | t::ts,kv::kvs,h,hp=>by
    obtain ⟨vs,h1,h2,h3⟩:=ydb I ts kvs (by simpa using h) fun j t' kv' e1 e2=>hp (j+1) t' kv' (by simpa using e1) (by simpa using e2)
    obtain ⟨its,r,p,_⟩:=I.tuple (SqT.of (hp 0 t kv rfl rfl))
    cases r with
    | cons ra rr =>
      cases rr with
      | cons rb rz =>
        cases rz
        rename_i ka va
        refine ⟨(kv.1,va)::vs,.cons ⟨rfl,rb⟩ h1,by simp [h2],fun j kv' t' e1 e2=>?_⟩
        cases j with
        | zero =>
          simp at e1 e2
          subst e1 e2
          exact ⟨ka,ze8 ra,p⟩
        | succ j=>exact h3 j kv' t' (by simpa using e1) (by simpa using e2)
theorem zbp (hc:X.calm=true):zbk X (.type "dict") zgP:=by
  intro pins s σ H xs us Q I r h
  obtain ⟨a,ts,kvs,rfl,ha,hl,hsz,hp,hn,q⟩:=h
  obtain ⟨u,rfl,rx⟩:=zcg r
  cases rx
  obtain ⟨its,r1,p1,z1⟩:=I.list (SqL.of ha)
  refine callType_codes (Q₁:=fun obj s₁=>obj = .ref s.heap.objs.size∧s₁={ s with heap:=s.heap.push { cls:=.type "dict",data:=.dict #[] } }) F.kt_called_dict (F.kt_typeCall_dict_1 _) F.entry_dict_init (kt_code_dict_new _ ⟨rfl,rfl⟩) ?_
  rintro obj s₁ ⟨rfl,rfl⟩
  have hnew:(s.heap.push { cls:=.type "dict",data:=.dict #[] }).DictOf (yaP X.prog X.w) s.heap.objs.size []:=Heap.DictOf.new s.heap
  refine ⟨hnew.typeIs,F.args_dict_init_2 _ _,?_⟩
  unfold Builtin.«dict.__init__»
  refine wpAny_bind ?_
  unfold Builtin.Dict.selfAndRest
  refine wpAny_bind (wpAny_notOrdered_dict hnew.typeIs ?_)
  show wpAny _ _ (pure (s.heap.objs.size,[Value.ref a])) _ _ _
  refine wpAny_pure ?_
  show wpAny _ _ (Builtin.Dict.updateFrom "dict.__init__" s.heap.objs.size (.ref a) [] .none) _ _ _
  unfold Builtin.Dict.updateFrom
  have hne:∀b o,s.heap.get? b=some o→b≠s.heap.objs.size:=fun b o e z=>by have l:s.heap.objs.size≥Nat.succ b:=Heap.lt_size e;have z':@Eq Nat b s.heap.objs.size:=z;omega
  obtain ⟨vs,hKV,hvl,hvs⟩:=ydb (P:=X.prog) (w:=X.w) I ts kvs hl hp
  have hA:X.A.in1.in1.handled=none:=I.ok.hd hc
  obtain ⟨⟨ca,da,dta,sla⟩,na,hoa,hca,hda,hdt⟩:=id p1
  dsimp only at hca hda hdt
  subst hca hda hdt
  have e1:(s.heap.push { cls:=.type "dict",data:=.dict #[] }).get? a=some { cls:=.type "list",dict:=none,data:=.seq its.toArray na,slots:=sla }:=Heap.get?_push_of_some _ hoa
  refine wpAny_bind (wpAny_typeOf ⟨_,e1,rfl⟩ ?_)
  dsimp only
  rw [if_pos (by decide)]
  refine wpAny_bind (zfv e1 hA fun h1 tk1 hk1=>?_)
  rw [if_pos (show (none:Option Value).isNone=true from rfl)]
  refine wpAny_bind (wpAny_rule ?_)
  have e2:h1.IsList a its.toArray:=⟨_,hk1 _ _ e1,rfl,na,rfl⟩
  refine wpAny_bind (wpAny_pyIter_list e2 ?_)
  have hN:s.heap.objs.size<h1.objs.size:=Heap.lt_size (hk1 _ _ (Heap.get?_push_size _ rfl))
  have hI:∀b o,h1.get? b=some o→b≠h1.objs.size:=fun b o e z=>by have l:h1.objs.size≥Nat.succ b:=Heap.lt_size e;have z':@Eq Nat b h1.objs.size:=z;omega
  have kp:∀b o,s.heap.get? b=some o→(h1.push { cls:=.type "list_iterator",data:=.fields #[.ref a,.int 0 0] }).get? b=some o:=fun b o e=>Heap.get?_push_of_some _ (hk1 _ _ (Heap.get?_push_of_some _ e))
  have hr1:=r1.length
  have hlen:its.toArray.size=ts.length:=by rw [List.size_toArray,←hr1,List.length_map]
  have hti:∀j,j<its.toArray.size→its.toArray[j]?=some (.ref (ts.getD j 0)):=by
    intro j hj
    rw [hlen] at hj
    have hj2:j<its.length:=by rw [←hr1,List.length_map];exact hj
    rw [List.getElem?_toArray,List.getElem?_eq_getElem hj2]
    have g:=Vals.getR r1 j (.ref (ts.getD j 0)) its[j] (by rw [List.getElem?_map,List.getElem?_eq_getElem hj];simp [List.getD,hj]) (List.getElem?_eq_getElem hj2)
    exact congrArg some g
  have htu:∀j,j<its.toArray.size→∃o,s.heap.get? (ts.getD j 0)=some o:=by
    intro j hj
    rw [hlen] at hj
    have hj2:j<vs.length:=by rw [hvl];exact hj
    obtain ⟨key,_,o,ho,_⟩:=hvs j vs[j] (ts.getD j 0) (List.getElem?_eq_getElem hj2) (by simp [List.getD,hj])
    exact ⟨o,ho⟩
  refine wpAny_pure ⟨plainId_quiet za8 _,?_⟩
  refine yfy (knd:=yaP X.prog X.w) (A:=X.A.in1) (I:=h1.objs.size) (ax:=a) (d:=s.heap.objs.size) hA its.toArray vs (hI _ _ (hk1 _ _ e1)) (Nat.ne_of_lt hN) (Ne.symm (hne _ _ hoa)) (by rw [hlen,hl];exact hsz) (by rw [hvl,hlen]) (fun j=>ts.getD j 0) hti
    (fun j hj=>by obtain ⟨o,ho⟩:=htu j hj;exact ⟨hne _ _ ho,hI _ _ (hk1 _ _ (Heap.get?_push_of_some _ ho))⟩) _ 0 _ _ [] rfl (Nat.zero_le _) ⟨⟨_,Heap.get?_push_size _ rfl,rfl,rfl⟩,e2.push _⟩ ?_ (Nat.le_refl _) ?_ ?_
  · exact (hnew.at fun o e=>hk1 _ _ e).push _
  · intro j kv hj
    have hj2:j<ts.length:=by rw [←hvl];exact (List.getElem?_eq_some_iff.mp hj).1
    obtain ⟨key,k1,k2⟩:=hvs j kv (ts.getD j 0) hj (by simp [List.getD,hj2])
    exact ⟨key,k1,k2.at fun o e=>kp _ _ e⟩
  · rintro s' hd hk ⟨h',tk,rfl⟩
    have hkeys:vs.map (·.1)=kvs.map (·.1):=(KV.keys hKV).symm
    rw [List.drop_zero,merged_nil_of_nodup vs (by rw [hkeys];exact hn)] at hd
    refine ⟨rfl,.ref s.heap.objs.size,_,I.laid (a:=s.heap.objs.size) (o:=.dK kvs) (t':=tk) (h':=h') (fun b o e=>hk b o (hI _ _ (hk1 _ _ (Heap.get?_push_of_some _ e))) (hne _ _ e) (kp _ _ e)) (Nat.le_refl _) ⟨hsz,beq_eq_false_iff_ne.mpr (Ne.symm (Nat.ne_of_lt I.big)),vs,hKV,hd⟩,rfl,q _ (I.hok.fresh (Nat.le_refl _))⟩
end
end L2
end
section
-- text: ExtI
namespace L2
open PySem PySem.Spec PyProof.Rows
section
variable {X:Cx}
theorem yec:∀n:Nat,n<100→PyData.leavesShort 8 (.int (n:Int))=true∧PyData.weight (.int (n:Int))≤10:=by decide +kernel
end
end L2
end
section
-- text: ExtJ
namespace L2
open PySem PySem.Spec PyProof.Rows
section
variable {X:Cx} {pos:Pos}
def yhw (i j k:Nat) (ta:TA):TS:=fun D σ H=>ta σ H fun vs H1=>∃u v w,vs=[u,v,w]∧D.nx (((σ.set i (some u)).set j (some v)).set k (some w)) H1
theorem ydk {i j k:Nat} {x y z:Str} {a b c:Expr} {ta:TA} {px py pz pt:Pos} {kt k2 pt2} (hc:X.calm=true) (hN:X.N.Nodup) (hi:X.N[i]?=some x) (hj:X.N[j]?=some y) (hk:X.N[k]?=some z) (hij:i≠j∧i≠k∧j≠k)
    (hx:X.env.scope.names.lookup x=some .local) (hy:X.env.scope.names.lookup y=some .local) (hz:X.env.scope.names.lookup z=some .local) (ha:PA X [a,b,c] ta)
    (hw:swappedStores [.Tuple [.Name x px,.Name y py,.Name z pz] kt pt] (.Tuple [a,b,c] k2 pt2) X.env=pure (some [x,y,z]))
    (hs:swapsWithSole [.Tuple [.Name x px,.Name y py,.Name z pz] kt pt] (.Tuple [a,b,c] k2 pt2) pos.line X.env=pure false:=by rfl) :
    PS X (.Assign [.Tuple [.Name x px,.Name y py,.Name z pz] kt pt] (.Tuple [a,b,c] k2 pt2) pos) (yhw i j k ta):=by
  intro pins s σ H D I h
  rw [exec_Assign_arm]
  refine wpAny_bind (wpAny_standAt ?_)
  rw [hs]
  refine wpAny_bind (wpAny_pure ?_)
  rw [if_neg (by decide)]
  refine wpAny_bind (Tuple_ (thn (ha _ pins s σ H _ I h) fun us s1 ⟨vs,H1,I1,r1,q1⟩=>?_))
  obtain ⟨v1,v2,v3,e1,q1⟩:=q1
  subst e1
  obtain ⟨u1,u2,u3,rfl,r1',r2',r3'⟩:∃u1 u2 u3,us=[u1,u2,u3]∧RelV v1 u1∧RelV v2 u2∧RelV v3 u3:=by
    cases r1 with
    | cons p q =>
      cases q with
      | cons p' q' =>
        cases q' with
        | cons p'' q'' =>
          cases q''
          exact ⟨_,_,_,rfl,p,p',p''⟩
  refine wpAny_newObj_type ?_ (by show 3≤sizeLine;decide)
  have I2:Inv X pins σ H1 { s1 with heap:=s1.heap.push { cls:=.type "tuple",data:=.seq [u1,u2,u3].toArray } }:=I1.kept (t':=s1.toks) fun b o e=>Heap.get?_push_of_some _ e
  rw [hw]
  refine wpAny_bind (wpAny_pure ?_)
  show wpAny (model X.prog X.w) X.A (do rule "assign.swapped-stores";let items ←unpackItems (.ref s1.heap.objs.size) 3 none;assignInOrder [fun v=>bindName X.env z v,fun v=>bindName X.env y v,fun v=>bindName X.env x v] items.reverse;pure Flow.next) _ _ _
  refine wpAny_bind (wpAny_rule (wpAny_bind (unpackItems_tuple (items:=#[u1,u2,u3]) (I.ok.hd hc) (IsTup.new s1.heap _) fun h' hx'=>?_)))
  have I3:=I2.kept (h':=h') (t':=s1.toks) fun b o e=>hx' b o (Nat.ne_of_lt (Heap.lt_size e)) e
  show wpAny _ _ (assignInOrder [fun v=>bindName X.env z v,fun v=>bindName X.env y v,fun v=>bindName X.env x v] [u3,u2,u1] >>= fun _=>pure Flow.next) _ _ _
  refine wpAny_bind (assignInOrder_cons (wpAny_bindName (zbj I3 hN hk (.inl hz) r3' (fun s2 I4=>?_) (.inr hz))))
  refine assignInOrder_cons (wpAny_bindName (zbj I4 hN hj (.inl hy) r2' (fun s2 I5=>?_) (.inr hy)))
  refine assignInOrder_cons (wpAny_bindName (zbj I5 hN hi (.inl hx) r1' (fun s3 I6=>assignInOrder_nil (wpAny_pure ?_)) (.inr hx)))
  have e:((σ.set k (some v3)).set j (some v2)).set i (some v1)=((σ.set i (some v1)).set j (some v2)).set k (some v3):=by
    rw [List.set_comm (some v3) (some v2) (Ne.symm hij.2.2),List.set_comm (some v3) (some v1) (Ne.symm hij.2.1),List.set_comm (some v2) (some v1) (Ne.symm hij.1)]
  rw [e] at I6
  exact ⟨_,H1,I6,q1⟩
section
variable {K:PySem.W.Frag}
theorem ybg (h:X.K=K):IxR X (rIxT K):=h ▸ yas
theorem zf7 (h:X.K=K):IxR X (rIxL K):=h ▸ zaq
theorem zeQ (h:X.K=K):OpR X (compareOp .In) (rIn K false):=h ▸ yfh
theorem zca (h:X.K=K):OpR X (compareOp .NotIn) (rIn K true):=h ▸ ydy
def rLen (K:PySem.W.Frag):List V→Hp→VK→Prop:=fun xs H Q=>∃p ys,xs=[V.ref p]∧(SqL K H p ys∨SqT K H p ys)∧Q (.int ys.length) H
theorem zfs (h:X.K=K):zbk X (.builtin "len") (rLen K):=h ▸ yah
end
end
end L2
end
section
-- text: ExtK
namespace L2
open PySem PySem.Spec PyProof.Rows
open MeetsSeq MeetsSeq2 MeetsSeq3
section
variable {X:Cx}
theorem yeb (l b:Addr) (items2:Array Value) (n n2:Nat) (dd dd2:Option Addr) (sl sl2:Array (Option Value)) :
    Meets (Builtin.«tuple.__add__» ⟨[.ref l,.ref b],[]⟩) (fun _ R s=>s.heap.get? l=some { cls:=.type "tuple",dict:=dd,data:=.seq #[] n,slots:=sl }∧s.heap.get? b=some { cls:=.type "tuple",dict:=dd2,data:=.seq items2 n2,slots:=sl2 }∧R (.ok (.ret (.ref b))) s) :=
  .of_wp fun prog w A R s h=>by
    obtain ⟨hp,g,d,tk,os⟩:=s;obtain ⟨hl,hb,h⟩:=h
    have hsub:isSubtype (.type "tuple") (.type "tuple")=pure true:=by rw [isSubtype_type];kernel_rfl
    wp_walk
    exact ⟨_,rfl,h⟩
def ygO (K:PySem.W.Frag):R2:=fun x y H Q=>∃(a b:Addr) (xs ys:List V),x = .ref a∧y = .ref b∧SqT K H a xs∧SqT K H b ys∧xs.length+ys.length≤sizeLine∧
  (xs=[]→Q (.ref b) H)∧(xs≠[]→ys=[]→Q (.ref a) H)∧(xs≠[]→ys≠[]→∀p,H p=none→Q (.ref p) (upd H p (.tup (xs++ys))))
theorem zcF:OpR X (binaryOp .Add) (ygO X.K):=by
  intro pins s σ H x y v u Q I rx ry h
  obtain ⟨a,b,xs,ys,rfl,rfl,ha,hb,hz,q0,q1,q2⟩:=h
  by_cases hx:xs=[]
  · subst hx
    cases rx
    cases ry
    obtain ⟨its,r1,⟨⟨cls,dd,data,sl⟩,ho,hc,n,hd⟩,_⟩:=I.tuple ha
    obtain ⟨its2,r2,⟨⟨cls2,dd2,data2,sl2⟩,ho2,hc2,n2,hd2⟩,_⟩:=I.tuple hb
    simp only at hc hd hc2 hd2
    subst hc hd hc2 hd2
    cases r1
    exact concat_meets ⟨_,ho,rfl⟩ ⟨_,ho2,rfl⟩ noFill_tuple_add seq_tuple_add PySem.F.slot_tuple_add PySem.F.entry_tuple_add (PySem.F.args_tuple_add_2 _ _) (yeb a b its2.toArray n n2 dd dd2 sl sl2) ⟨ho,ho2,⟨.ref b,H,I,rfl,q0 rfl⟩⟩
  · exact ygG pins s σ H _ _ v u Q I rx ry ⟨a,b,xs,ys,rfl,rfl,ha,hb,hx,hz,q1 hx,q2 hx⟩
end
end L2
end
section
-- text: ExtL
namespace L2
open PySem PySem.Spec PyProof.Rows
theorem yb5:Manifest.owners.lookup (String.ofList ['d','e','s','r','e','v','e','r'].reverse)=some Manifest.sig_reversed:=by kernel_rfl
theorem zaB:Slot "reversed" "__next__" "reversed.__next__" :=
  .of (owner:="reversed") (n:="__next__") (by rw [typeLookup_type,builtinLookup_eq_fast];kernel_rfl) (by decide +kernel) (by decide +kernel) (by decide +kernel)
    (by first|exact .inl (by decide +kernel)|exact .inr (by decide +kernel)) (by rw [isSubtype_type];kernel_rfl)
theorem zbq:entryFor table "reversed.__next__"=some Builtin.«reversed.__next__»:=entryFor_of_tree (by kernel_rfl)
theorem ybi (a:Value):argsOk "reversed.__next__" ⟨[a],[]⟩:=by
  unfold argsOk;rw [signature?_of (id:="reversed.__next__") (n:=['_','_','t','x','e','n','_','_']) (o:=['d','e','s','r','e','v','e','r']) (by kernel_rfl) yb5];kernel_rfl
theorem zbv:Slot "reversed" "__iter__" "reversed.__iter__" :=
  .of (owner:="reversed") (n:="__iter__") (by rw [typeLookup_type,builtinLookup_eq_fast];kernel_rfl) (by decide +kernel) (by decide +kernel) (by decide +kernel)
    (by first|exact .inl (by decide +kernel)|exact .inr (by decide +kernel)) (by rw [isSubtype_type];kernel_rfl)
theorem zb5 (a:Value):argsOk "reversed.__iter__" ⟨[a],[]⟩:=by
  unfold argsOk;rw [signature?_of (id:="reversed.__iter__") (n:=['_','_','r','e','t','i','_','_']) (o:=['d','e','s','r','e','v','e','r']) (by kernel_rfl) yb5];kernel_rfl
theorem zb6:entryFor table "reversed.__iter__"=some Builtin.«dict_keyiterator.__iter__» :=
  entryFor_alias (id':="dict_keyiterator.__iter__") (by kernel_rfl) (by first|rfl|decide +kernel|(unfold String.splitOn;simp +decide [String.splitOnAux])) (by decide +kernel) (by kernel_rfl)
def revT (l:Addr) (i:Int):Obj:={ cls:=.type "reversed",data:=.fields #[.ref l,rawInt i] }
def ybW (h:Heap) (a l:Addr) (i:Int):Prop:=∃o,h.get? a=some o∧o.cls = .type "reversed"∧o.data = .fields #[.ref l,rawInt i]
section
variable {prog:Program} {w:World} {A:Around} {E:Value→Shared→Prop} {s:Shared}
theorem ybW.typeIs {a l:Addr} {i:Int} (x:ybW s.heap a l i):s.TypeIs (.ref a) "reversed":=let ⟨o,ho,hc,_⟩:=x;⟨o,ho,hc⟩
theorem ybW.at {h h':Heap} {a l:Addr} {i:Int} (x:ybW h a l i) (e:∀o,h.get? a=some o→h'.get? a=some o):ybW h' a l i:=let ⟨o,ho,r⟩:=x;⟨o,e _ ho,r⟩
theorem zdw {it l:Addr} {i:Int} {Q:Value→Shared→Prop} (hit:ybW s.heap it l i) (h:Q (.ref it) s):wpAny (model prog w) A (pyIter (.ref it)) Q E s:=by
  refine wpAny_pyIter_slot hit.typeIs zbv (wpAny_call_entry zbv hit.typeIs zb6 ?_ (zb5 _))
  show wpAny _ _ (ret (.ref it)) _ _ s
  exact wpAny_pure ⟨_,rfl,"reversed",_,hit.typeIs,zaB.lookup,h⟩
theorem zfw {it l:Addr} {i:Nat} {items:Array Value} {x:Value} {Q:Option Value→Shared→Prop} (hit:ybW s.heap it l (i:Int)) (hl:s.heap.IsTuple l items) (hx:items[i]?=some x) (hz:items.size≤sizeLine)
    (hQ:∀h' tk,ybW h' it l ((i:Int)-1)→Heap.SameBut it s.heap h'→Q (some x) { s with heap:=h',toks:=tk }):wpAny (model prog w) A (pyNext (.ref it)) Q E s:=by
  obtain ⟨o,ho,hc,hd⟩:=id hit
  have hi:i<items.size:=(Array.getElem?_eq_some_iff.mp hx).1
  have hn:=zcN
  unfold pyNext
  refine wpAny_bind (wpAny_attempt (wpAny_callSpecial?_slot (name:=Str.ofString "__next__") hit.typeIs zaB
    (wpAny_call_entry zaB hit.typeIs zbq ?_ (ybi _))))
  unfold Builtin.«reversed.__next__»
  refine wpAny_bind (wpAny_of_eq (a:=(Value.ref it,[])) rfl ?_)
  try dsimp only
  refine wpAny_bind (wpAny_field ho hd (x:=.ref l) rfl ?_)
  refine wpAny_bind (wpAny_field ho hd (x:=rawInt (i:Int)) rfl ?_)
  show wpAny _ _ (if (i:Int)<0 then _ else _) _ _ s
  rw [if_neg (by omega)]
  refine wpAny_bind (wpAny_specialOf hl.typeIs slot_tuple_getitem.lookup ?_)
  try dsimp only
  rw [if_neg (show ¬ ((some (Value.builtin "tuple.__getitem__")).isNone=true) from Bool.false_ne_true)]
  refine wpAny_bind (wpAny_mkInt ?_)
  refine wpAny_bind (wpAny_attempt ?_)
  refine getItem_tuple (j:=i) hl (by omega) (by omega) (by rw [seqIndex_of (by omega) (by omega),Int.toNat_natCast]) hx ?_
  try dsimp only
  refine wpAny_bind (wpAny_field ho hd (x:=rawInt (i:Int)) rfl ?_)
  try dsimp only
  refine wpAny_bind (wpAny_setField ho hd (by simp) ?_)
  refine wpAny_pure ⟨x,rfl,wpAny_pure (hQ _ _ ?_ (Heap.SameBut.update ..))⟩
  exact ⟨_,Heap.get?_update_self _ ho (Obj.isFreed_of_fields (Obj.data_mapFields hd _)),(Obj.cls_mapFields ..).trans hc,by rw [Obj.data_mapFields hd];simp⟩
theorem zf9 {it l:Addr} {Q:Option Value→Shared→Prop} (hh:A.handled=none) (hit:ybW s.heap it l (-1))
    (hQ:∀h' tk,Heap.ExtBut it s.heap h'→Q none { s with heap:=h',toks:=tk }):wpAny (model prog w) A (pyNext (.ref it)) Q E s:=by
  obtain ⟨o,ho,hc,hd⟩:=id hit
  unfold pyNext
  refine wpAny_bind (wpAny_attempt (wpAny_callSpecial?_slot (name:=Str.ofString "__next__") hit.typeIs zaB
    (wpAny_call_entry zaB hit.typeIs zbq ?_ (ybi _))))
  unfold Builtin.«reversed.__next__»
  refine wpAny_bind (wpAny_of_eq (a:=(Value.ref it,[])) rfl ?_)
  try dsimp only
  refine wpAny_bind (wpAny_field ho hd (x:=.ref l) rfl ?_)
  refine wpAny_bind (wpAny_field ho hd (x:=rawInt (-1)) rfl ?_)
  show wpAny _ _ (if (-1:Int)<0 then _ else _) _ _ s
  rw [if_pos (by decide)]
  refine wpAny_bind (wpAny_rule ?_)
  refine wpAny_bind ?_
  show wpAny _ _ (setField (.ref it) 1 (rawInt (-1)) >>= fun _=>setField (.ref it) 0 .none) _ _ s
  refine wpAny_bind (wpAny_setField ho hd (by simp) ?_)
  have h1:=Heap.get?_update_self (Obj.mapFields (fun vs=>vs.setIfInBounds 1 (rawInt (-1)))) ho (Obj.isFreed_of_fields (Obj.data_mapFields hd _))
  refine wpAny_setField h1 (Obj.data_mapFields hd _) (by simp) ?_
  refine wpAny_bind ?_
  show wpAny _ _ (newExc (.type "StopIteration") [] >>= _) _ _ _
  refine wpAny_bind ?_
  simp only [newExc,newTuple]
  refine wpAny_bind (wpAny_newObj_type ?_ (by size_fits))
  refine wpAny_bind (m:=firstArgMember _ _) (wpAny_of_eq (a:=Value.none) (by first|rfl|(simp only [firstArgMember];rfl)) ?_)
  refine wpAny_newObj_type ?_ (by size_fits)
  simp only [raiseNew]
  refine wpAny_bind (wpAny_handled ?_)
  first|rw [show A.in1.handled=none from hh]|rw [hh]
  refine wpAny_bind (wpAny_pure (wpAny_throw ?_))
  refine wpAny_bind (wpAny_isInstance (T:="StopIteration") (b:=true) ⟨_,Heap.get?_push_size _ rfl,rfl⟩ isSubtype_stop ?_)
  exact wpAny_pure (hQ _ _ fun b o' hb e=>Heap.get?_push_of_some _ (Heap.get?_push_of_some _ ((Heap.get?_update_other _ _ (Ne.symm hb)).trans ((Heap.get?_update_other _ _ (Ne.symm hb)).trans e))))
end
theorem ycc:Slot "reversed" "__init__" "object.__init__" :=
  .of (owner:="object") (n:="__init__") (by rw [typeLookup_type,builtinLookup_eq_fast];kernel_rfl) (by decide +kernel) (by decide +kernel) (by decide +kernel)
    (by first|exact .inl (by decide +kernel)|exact .inr (by decide +kernel)) (by rw [isSubtype_type];kernel_rfl)
theorem zft:mroOf (.type "reversed")=pure [.type "reversed",.type "object"]:=by rw [mroOf_type];kernel_rfl
theorem zcX:typeLookup (.type "reversed") "__new__"=pure (some (.builtin "reversed.__new__")):=by rw [typeLookup_type,builtinLookup_eq_fast];kernel_rfl
theorem ycP:TypeCalled "reversed" "reversed.__new__" "object.__init__" :=
  ⟨by decide +kernel,by decide +kernel,⟨_,_,zft⟩,madeBy_type zft zcX (by decide +kernel),by decide +kernel,by rw [isSubtype_type];kernel_rfl,ycc⟩
theorem ydF (a:Value):checkTypeCall "reversed" ⟨[a],[]⟩=pure ():=by kernel_rfl
theorem yd5 (a:Value):checkBuiltinCall "reversed.__new__" ⟨[.type "reversed",a],[]⟩=pure ():=by kernel_rfl
theorem ydt:entryFor table "reversed.__new__"=some Builtin.«reversed.__new__»:=entryFor_of_tree (by kernel_rfl)
theorem zgy:isSubtype (.type "reversed") (.type "reversed")=pure true:=by rw [isSubtype_type];kernel_rfl
theorem zeS (l:Addr) (xs:Array Value) (n:Nat) (dct:Option Addr) (sl:Array (Option Value)) (hz:xs.size≤sizeLine) :
    Meets (Builtin.«reversed.__new__» ⟨[.type "reversed",.ref l],[]⟩) (fun _ R s=>s.heap.get? l=some { cls:=.type "tuple",dict:=dct,data:=.seq xs n,slots:=sl }∧∀tk,R (.ok (.ret (.ref s.heap.objs.size))) { s with heap:=s.heap.push (revT l ((xs.size:Int)-1)),toks:=tk }) :=
  .of_wp fun prog w A R s h=>by
    obtain ⟨hp,g,d,tk,os⟩:=s;obtain ⟨hl,h⟩:=h
    have hT:∀tk',(⟨hp,g,d,tk',os⟩:Shared).TypeIs (.ref l) "tuple":=fun _=>⟨_,hl,rfl⟩
    have hsub:=zgy
    have hno:typeLookup (.type "tuple") "__reversed__"=pure none:=by rw [typeLookup_type,builtinLookup_eq_fast];kernel_rfl
    have hdict:isSubtype (.type "tuple") (.type "dict")=pure false:=by rw [isSubtype_type];kernel_rfl
    have hgi:=slot_tuple_getitem.lookup
    unfold Builtin.«reversed.__new__»
    have hn:=zcN
    repeat (any_goals (first|assumption|exact hT _|((with_reducible show wpAny _ _ (call (Value.builtin "len") _ _) _ _ _);refine len_tuple (s:=⟨hp,g,d,tk,os⟩) ⟨_,hl,rfl,n,rfl⟩ (by omega) ?_)|wp_step))
    exact ⟨_,rfl,h _⟩
def Itrv (K:PySem.W.Frag) (a:Addr) (n:Nat):It :=
  ⟨fun i H=>∃xs x,SqT K H a xs∧i<n∧xs.length=n∧xs[n-1-i]?=some x,fun i H x H'=>H'=H∧∀xs,SqT K H a xs→xs[n-1-i]?=some x,fun i _=>n≤i⟩
theorem zfe {P:Program} {w:World} {K:PySem.W.Frag} {tg:Expr} (a it:Addr) (n:Nat):Turn P w K tg (Itrv K a n) [it] it (fun i h=>i≤n∧ybW h it a ((n:Int)-1-(i:Int))) where
  mem:=by simp
  obj:=fun i h st b hb=>by
    have e:b=it:=by simpa using hb
    subst e
    obtain ⟨_,o,e,c,d⟩:=st
    exact ⟨o,e,fun v z=>by rw [d] at z;cases z⟩
  keep:=fun i h h' st k=>⟨st.1,st.2.at fun o e=>k it (by simp) o e⟩
  item:=by
    intro X hP hw hK hc i pins s σ H E I hf st hg
    subst hP hw hK
    obtain ⟨xs,x,hq,hi,hl,hx⟩:=hg
    obtain ⟨its,rv,p,hz⟩:=I.tuple hq
    obtain ⟨u,hu,ru⟩:=rv.get hx
    obtain ⟨f0,f1,f2,f3,f4,f5⟩:=hf it (by simp)
    have st2:=st.2
    rw [show (n:Int)-1-(i:Int)=((n-1-i:Nat):Int) by omega] at st2
    have hlen:=rv.length
    refine zfw st2 (show s.heap.IsTuple a its.toArray from p) (x:=u) (by simpa using hu) (by rw [List.size_toArray];omega) fun h' tk st' sb=>?_
    rw [show ((n-1-i:Nat):Int)-1=(n:Int)-1-((i+1:Nat):Int) by omega] at st'
    have I1:Inv X pins σ H { s with heap:=h',toks:=tk }:=I.turned (t':=tk) (fun b o hb e=>(sb.2 b hb).trans e) f0 f1 f3 f4 f5
    obtain ⟨o,e,c,d⟩:=id st'
    exact ⟨u,rfl,zfN (s:={ s with heap:=h',toks:=tk }) e c d (by decide) ⟨x,H,I1,ru,⟨rfl,fun ys hy=>by rw [I.tuple_inj hy hq];exact hx⟩,⟨by omega,st'⟩,fun b hb=>(hf b hb).1⟩⟩
  done:=by
    intro X hP hw hK hc i pins s σ H E I hf st hg
    subst hP hw hK
    have hi:i=n:=Nat.le_antisymm st.1 hg
    subst hi
    obtain ⟨f0,f1,f2,f3,f4,f5⟩:=hf it (by simp)
    have st2:=st.2
    rw [show (i:Int)-1-(i:Int) = -1 by omega] at st2
    exact zf9 (I.ok.hd hc) st2 fun h' tk eb=>⟨rfl,I.turned (t':=tk) (fun b o hb e=>eb b o hb e) f0 f1 f3 f4 f5⟩
  self:=fun _ _ _ _ _ st h=>zdw st.2 h
theorem ydl:bootBuiltins "reversed"=some (.type "reversed"):=by decide +kernel
section
variable {X:Cx}
def iRev (K:PySem.W.Frag) (ta:TA):TI:=fun σ H R=>ta σ H fun vs H1=>∃a xs,vs=[.ref a]∧SqT K H1 a xs∧R (Itrv K a xs.length) H1
theorem zg4 {a:Expr} {ta:TA} {p pos:Pos} {tg:Expr} (hg:Gl X "reversed") (hm:X.mg "reversed"=none) (ha:PA X [a] ta) (hs:starEach [a] X.env=[(false,eval a X.env)]:=by rfl) :
    PI X tg (.Call (.Name "reversed" p) [a] [] pos) (iRev X.K ta):=by
  intro pins s σ H R I h
  refine Call_ (ybO I hg hm (u:=.type "reversed") ydl (PyProof.Rows.callWith_type1 (thn (ha pos pins s σ H _ I h) fun us s1 ⟨vs,H1,I1,r1,q1⟩=>?_) hs rfl))
  obtain ⟨a,xs,e,h1,q⟩:=q1
  subst e
  cases r1 with
  | cons r rr =>
    cases rr
    cases r
    obtain ⟨its,rv,⟨⟨cls,dd,data,sl⟩,ho,hc,n,hd⟩,hz⟩:=I1.tuple h1
    simp only at hc hd
    subst hc hd
    have hl:=rv.length
    refine callType_new ycP (by decide) (ydF _) (yd5 _) (fun obj=>F.args_object_init_2 obj _) ydt (zeS a its.toArray n dd sl (by rw [List.size_toArray];omega)) ⟨ho,fun tk=>?_⟩
    have hr:ybW (s1.heap.push (revT a ((its.toArray.size:Int)-1))) s1.heap.objs.size a ((xs.length:Int)-1-((0:Nat):Int)):=by
      refine ⟨_,Heap.get?_push_size _ rfl,rfl,?_⟩
      show Data.fields _=Data.fields _
      rw [List.size_toArray,←hl]
      simp
    refine ⟨⟨_,Heap.get?_push_size _ rfl,rfl⟩,zdw hr ?_⟩
    refine ⟨s1.heap.objs.size,[s1.heap.objs.size],_,_,H1,rfl,I1.kept (t':=tk) fun b o e=>Heap.get?_push_of_some _ e,zfe a _ xs.length,⟨Nat.zero_le _,hr⟩,fun b hb=>?_,q⟩
    have e:b=s1.heap.objs.size:=by simpa using hb
    subst e
    exact I1.fpOk (Nat.le_refl _) (I1.hok.fresh (Nat.le_refl _))
theorem zf0 {K:PySem.W.Frag} {a:Addr} {xs:List V}:Seqs (Itrv K a xs.length) xs.length (fun H=>SqT K H a xs) (fun i x H H'=>H'=H∧xs[xs.length-1-i]?=some x) :=
  ⟨fun i H hi g=>⟨xs,xs[xs.length-1-i],g,hi,rfl,by simp⟩,fun H g=>Nat.le_refl _,fun i H x H' hi g q=>⟨q.1,q.2 xs g⟩⟩
end
end L2
end
section
-- text: ExtM
namespace L2
open PySem PySem.Spec PyProof.Rows
theorem yce:∀ {ns:List Int} {us:List Value},Vals (ns.map V.int) us→IntsAre us ns
  | [],[],_=>.nil
  | [],_::_,r=>by cases r
  | _::_,[],r=>by cases r
  | n::ns,u::us,.cons r t=>by
    obtain ⟨tk,rfl⟩:=r
    exact .cons n tk (yce t)
theorem ybY:∀ {us:List Value} {ns:List Int},IntsAre us ns→Vals (ns.map V.int) us
  | _,_,.nil=>.nil
  | _,_,.cons n t h=>.cons ⟨t,rfl⟩ (ybY h)
section
variable {X:Cx}
def zgM (K:PySem.W.Frag):List V→Hp→VK→Prop:=fun vs H Q=>∃(a:Addr) (ns:List Int),vs=[.ref a]∧SqL K H a (ns.map V.int)∧ns.length<64∧
  ∀(l:Addr) (ns':List Int),H l=none→ns'.Perm ns→ns'.Pairwise (·≤·)→Q (.ref l) (upd H l (.lst (ns'.map V.int)))
theorem ycG:zbk X (.builtin "sorted") (zgM X.K):=by
  intro pins s σ H xs us Q I r h
  obtain ⟨a,ns,rfl,ha,hl,q⟩:=h
  obtain ⟨u,rfl,rx⟩:=zcg r
  cases rx
  obtain ⟨its,r1,p1,z1⟩:=I.list ha
  have hlen:=r1.length
  rw [List.length_map] at hlen z1
  refine sorted_ints p1.isList (yce r1) (by omega) fun out ns' a1 a2 a3=>?_
  obtain ⟨e,he⟩:=sortedAll_at s.heap its out
  have r2:Vals (ns'.map V.int) out.toList:=ybY a1
  refine ⟨.ref (s.heap.objs.size+1),_,I.laid (a:=s.heap.objs.size+1) (t':=s.toks) (o:=.lst (ns'.map V.int)) (fun b ob e=>sortedAll_old e) (Nat.le_succ _) ⟨?_,out.toList,e,r2,?_⟩,rfl,q _ ns' (I.hok.fresh (Nat.le_succ _)) a2 a3⟩
  · rw [List.length_map,a2.length_eq];exact z1
  · rw [he]
end
end L2
end
section
-- text: ExtN
namespace L2
open PySem PyProof.Rows
section
variable {X:Cx}
theorem zgj {xs:List V} {us:List Value} (h:Vals xs us) {i:Nat} (hi:i<us.toArray.size):∃x,xs[i]?=some x∧RelV x us.toArray[i]:=by
  have hl:=h.length
  rw [List.size_toArray] at hi
  have hx:xs[i]?=some (xs[i]'(by omega)):=List.getElem?_eq_getElem (by omega)
  have hu:us[i]?=some (us[i]):=List.getElem?_eq_getElem hi
  exact ⟨_,hx,h.getR i _ _ hx hu⟩
end
end L2
end
section
-- text: ExtO
namespace L2
open PySem PyProof.Rows
def Rise (xs:Array Nat):Prop:=xs.toList.Pairwise (· < ·)
theorem ycy {xs:Array Nat} (h:Rise xs) {i j:Nat} (hij:i<j) (hj:j<xs.size):xs[i]'(by omega)<xs[j]:=by
  have:=List.pairwise_iff_getElem.mp h i j (by simpa using (by omega:i<xs.size)) (by simpa using hj) hij
  simpa using this
theorem zdj {xs:Array Nat} (h:Rise xs) (j:Nat):∀(fuel lo hi:Nat),hi-lo≤fuel→lo≤hi→hi≤xs.size→
    (∀i (hi':i<xs.size),i<lo→xs[i]<j)→(∀i (hi':i<xs.size),hi≤i→j≤xs[i])→
    SetTable.below.go xs j fuel lo hi≤xs.size∧(∀i (hi':i<xs.size),i<SetTable.below.go xs j fuel lo hi→xs[i]<j)∧(∀i (hi':i<xs.size),SetTable.below.go xs j fuel lo hi≤i→j≤xs[i])
  | 0,lo,hi,hf,hl,hs,h1,h2=>by
    have e:lo=hi:=by omega
    subst e
    exact ⟨hs,h1,h2⟩
  | fuel+1,lo,hi,hf,hl,hs,h1,h2=>by
    unfold SetTable.below.go
    by_cases c:lo<hi
    · rw [if_pos c]
      have hm:(lo+hi)/2<xs.size:=by omega
      have eg:xs.getD ((lo+hi)/2) j=xs[(lo+hi)/2]:=by simp [Array.getD,hm]
      dsimp only
      rw [eg]
      by_cases d:xs[(lo+hi)/2]<j
      · rw [if_pos d]
        refine zdj h j fuel _ _ (by omega) (by omega) hs (fun i hi' hlt=>?_) h2
        by_cases e:i=(lo+hi)/2
        · subst e;exact d
        · exact Nat.lt_trans (ycy h (by omega) hm) d
      · rw [if_neg d]
        refine zdj h j fuel _ _ (by omega) (by omega) (by omega) h1 fun i hi' hge=>?_
        by_cases e:i=(lo+hi)/2
        · subst e;omega
        · have:=ycy h (show (lo+hi)/2<i by omega) hi'
          omega
    · rw [if_neg c]
      have e:lo=hi:=by omega
      subst e
      exact ⟨hs,h1,h2⟩
theorem zcl {xs:Array Nat} (h:Rise xs) (j:Nat):SetTable.below xs j≤xs.size∧(∀i (hi':i<xs.size),i<SetTable.below xs j→xs[i]<j)∧(∀i (hi':i<xs.size),SetTable.below xs j≤i→j≤xs[i]) :=
  zdj h j xs.size 0 xs.size (by omega) (by omega) (Nat.le_refl _) (fun i _ hi=>absurd hi (Nat.not_lt_zero _)) (fun i hi' hge=>absurd hi' (by omega))
theorem zed {xs:Array Nat} (h:Rise xs) {j:Nat} (hn:xs[SetTable.below xs j]?≠some j):Rise (SetTable.insertAt xs (SetTable.below xs j) j):=by
  obtain ⟨h1,h2,h3⟩:=zcl h j
  generalize SetTable.below xs j=r at *
  unfold Rise
  rw [SetTable.toList_insertAt]
  have hd:∀y∈xs.toList.drop r,j<y:=by
    intro y hy
    obtain ⟨i,hi,e⟩:=List.getElem_of_mem hy
    rw [List.getElem_drop] at e
    have hi2:r+i<xs.size:=by simp at hi;omega
    have e2:y=xs[r+i]:=by rw [←e];simp
    have h4:=h3 (r+i) hi2 (by omega)
    have h5:r<xs.size:=by omega
    have h6:=h3 r h5 (Nat.le_refl _)
    have h7:xs[r]≠j:=fun q=>hn (by rw [Array.getElem?_eq_getElem h5,q])
    by_cases c:i=0
    · subst c;rw [e2];simp only [Nat.add_zero];omega
    · have:=ycy h (show r<r+i by omega) hi2
      rw [e2];omega
  have ht:∀y∈xs.toList.take r,y<j:=by
    intro y hy
    obtain ⟨i,hi,e⟩:=List.getElem_of_mem hy
    rw [List.getElem_take] at e
    have hi2:i<xs.size:=by simp at hi;omega
    have e2:y=xs[i]:=by rw [←e];simp
    rw [e2]
    exact h2 i hi2 (by simp at hi;omega)
  refine List.pairwise_append.mpr ⟨List.Pairwise.sublist (List.take_sublist _ _) h,List.pairwise_cons.mpr ⟨hd,List.Pairwise.sublist (List.drop_sublist _ _) h⟩,fun a ha b hb=>?_⟩
  rcases List.mem_cons.mp hb with rfl|hb
  · exact ht a ha
  · exact Nat.lt_trans (ht a ha) (hd b hb)
theorem zdi {t:SetTable} {f:Nat→Int} {h:Int}:∀(fuel:Nat) (p:SetTable.Probe) {j:Nat} {d:Option Nat},(∀e,p.dummy=some e→t.slot e = .dummy)→SetTable.probe.go t f h fuel p=some (.empty j d)→t.slot j = .empty∧∀e,d=some e→t.slot e = .dummy
  | 0,p,j,d,_,e=>by cases e
  | fuel+1,p,j,d,hp,e=>by
    unfold SetTable.probe.go at e
    have adv:∀q:SetTable.Probe,(t.advance q).dummy=q.dummy:=fun q=>by unfold SetTable.advance;split <;> rfl
    cases hs:t.slot p.j with
    | empty=>rw [hs] at e;cases e;exact ⟨hs,hp⟩
    | dummy =>
      rw [hs] at e
      refine zdi fuel _ (fun x hx=>?_) e
      rw [adv] at hx;cases hx;exact hs
    | live i =>
      rw [hs] at e
      dsimp only at e
      split at e
      · cases e
      · refine zdi fuel _ (fun x hx=>?_) e
        rw [adv] at hx;exact hp x hx
theorem yfO {t:SetTable} {h:Int} {j:Nat} {b:Bool} (e:t.freeSlot h=some (j,b)):∀i,t.slot j≠.live i:=by
  unfold SetTable.freeSlot at e
  split at e
  · rename_i j' d hm
    obtain ⟨h1,h2⟩:=zdi (t:=t) _ _ (fun e he=>by cases he) hm
    cases e
    intro i
    cases d with
    | none=>show t.slot j'≠_;rw [h1];exact fun q=>nomatch q
    | some d=>show t.slot d≠_;rw [h2 d rfl];exact fun q=>nomatch q
  · cases e
theorem yfo {t:SetTable} {j:Nat} (h:∀i,t.slot j≠.live i):t.place[SetTable.below t.place j]?≠some j:=fun e=>by
  refine h (SetTable.below t.place j) ?_
  unfold SetTable.slot
  dsimp only
  rw [if_pos (by rw [e];exact beq_self_eq_true _)]
structure TabG (led:Bool) (t:SetTable):Prop where
  led:t.led=led
  rise:t.plain=true→Rise t.place
theorem TabG.standIn {led:Bool} {t:SetTable} (h:TabG led t) (n:Nat):TabG led (t.standIn n):=⟨h.led,fun e=>by cases e⟩
theorem zga {led:Bool} {t:SetTable} (h:TabG led t) (es:Array (Int×Value)) (k:Int) (x:Value):TabG led (layNew t es k x).2.1:=by
  unfold layNew
  split
  · rename_i slot wasDummy he
    dsimp only
    have hp:TabG led (t.put slot).1:=by
      refine ⟨h.led,fun e=>?_⟩
      exact zed (h.rise e) (yfo (yfO he))
    unfold SetTable.orStandIn
    split
    · exact hp
    · exact hp.standIn _
  · exact h.standIn _
theorem yeR {led:Bool} {t:SetTable} (h:TabG led t) (es:Array (Int×Value)) (n:Nat):TabG led (relayAll t es n).2.1:=by
  unfold relayAll
  split
  · rename_i t' order he
    have ht:TabG led t':=by
      unfold SetTable.relaid SetTable.laid at he
      simp only [Option.bind_eq_bind,Option.bind_eq_some_iff] at he
      obtain ⟨owner,_,he⟩:=he
      cases he
      refine ⟨h.led,fun _=>?_⟩
      unfold Rise
      dsimp only
      rw [List.pairwise_map,List.pairwise_filterMap]
      refine List.Pairwise.imp ?_ List.pairwise_lt_range
      intro a b hab x hx y hy
      cases h1:owner.getD a none with
      | none=>rw [h1] at hx;cases hx
      | some u =>
        cases h2:owner.getD b none with
        | none=>rw [h2] at hy;cases hy
        | some v=>rw [h1] at hx;rw [h2] at hy;cases hx;cases hy;exact hab
    dsimp only
    split
    · exact ht
    · exact h.standIn _
  · exact h.standIn _
section
variable {prog:Program} {w:World} {A:Around} {E:Value→Shared→Prop} {s:Shared}
abbrev zbs (w:World):Bool:=w.params.followText "set-order"
def SetG (w:World) (prog:Program) (h:Heap) (a:Addr) (S:Int→Bool) (n:Nat):Prop :=
  ∃o es ep t,h.get? a=some o∧o.ExactSet∧o.data = .set es ep t∧ElemsOf (intKind prog w) es.toList∧(∀k,S k=true↔∃e∈es.toList,(intKind prog w).is k e.2=true)
    ∧es.size<scanBound∧t.fits es.size=true∧es.size=n∧TabG (!zbs w) t
theorem zdH {h:Heap} {a:Addr} {o:Obj} {es:Array (Int×Value)} {ep:Nat} {t:SetTable} (ho:h.get? a=some o) (hd:o.data = .set es ep t) (es':Array (Int×Value)) (t':SetTable) :
    (h.update a (Obj.putSet es' t')).get? a=some { o with data:=.set es' (ep+1) t' }:=by
  have:=Heap.get?_update_self (Obj.putSet es' t') ho (by rw [putSet_of es' t' hd];rfl)
  rw [putSet_of es' t' hd] at this;exact this
theorem zhu {a:Addr} {S:Int→Bool} {n:Nat} {k:Int} {tk:Tok} {Q:Bool→Shared→Prop} (hS:SetG w prog s.heap a S n) (hroom:n+1<scanBound)
    (h:∀h' b,Heap.SameBut a s.heap h'→SetG w prog h' a (fun k'=>S k'||decide (k'=k)) (if S k then n else n+1)→Q b { s with heap:=h' }) :
    wpAny (model prog w) A (setAddHashed a (.int k tk) ((intKind prog w).hash k)) Q E s:=by
  obtain ⟨o,es,ep,t,ho,hex,hd,hel,hmem,hb,hf,hn,hG⟩:=hS
  have hkey:(intKind prog w).is k (.int k tk)=true:=intKind_is _ _ _ _
  have hsc:(Value.int k tk).scannable=true:=rfl
  unfold setAddHashed setAddHashedIn
  refine wpAny_holding (wpAny_bind (wpAny_setState_of ho hd hf ?_))
  dsimp only
  rw [byScan_of hsc hb hel,if_pos rfl]
  unfold setAddByScan
  refine wpAny_bind (wpAny_bind (wpAny_rule (wpAny_bind (wpAny_setScan_of hkey ho hd hf hel ?_))))
  cases hr:List.findIdx? (fun e=>(intKind prog w).is k e.2) es.toList with
  | some j =>
    obtain ⟨hj,hpj,_⟩:=List.findIdx?_eq_some_iff_getElem.mp hr
    have hSk:S k=true:=(hmem k).mpr ⟨es.toList[j],List.getElem_mem hj,hpj⟩
    refine wpAny_pure (wpAny_pure ?_)
    have h1:=h s.heap false (Heap.SameBut.refl a s.heap) ⟨o,es,ep,t,ho,hex,hd,hel,fun k'=>by
      rw [Bool.or_eq_true,decide_eq_true_eq,←hmem k']
      exact ⟨fun hk=>hk.elim id (fun e=>e ▸ hSk),.inl⟩,hb,hf,by rw [hSk];exact hn,hG⟩
    exact h1
  | none =>
    have hSk:S k=false:=by
      cases hk:S k with
      | false=>rfl
      | true =>
        obtain ⟨e,he,hp⟩:=(hmem k).mp hk
        have:=List.findIdx?_eq_none_iff.mp hr e he
        rw [hp] at this;cases this
    have hperm:=layNew_perm t es ((intKind prog w).hash k) (.int k tk)
    have hfits:=layNew_fits t es ((intKind prog w).hash k) (.int k tk)
    have hG1:=zga hG es ((intKind prog w).hash k) (.int k tk)
    dsimp only
    generalize layNew t es ((intKind prog w).hash k) (.int k tk)=L at hperm hfits hG1 ⊢
    obtain ⟨es1,t1,wasDummy,gave⟩:=L
    dsimp only at hperm hfits hG1 ⊢
    rw [Array.toList_push] at hperm
    have hel1:ElemsOf (intKind prog w) es1.toList:=(hel.push hkey hsc).perm hperm
    have hmem1:∀k',(S k'||decide (k'=k))=true↔∃e∈es1.toList,(intKind prog w).is k' e.2=true:=mem_push_iff hkey hmem hperm
    have hsz1:es1.size=n+1:=by rw [←Array.length_toList,hperm.length_eq,List.length_append,Array.length_toList,hn];rfl
    have hz:es1.size≤sizeLine:=fits_of_scanBound (by omega)
    have en:(if S k=true then n else n+1)=n+1:=by rw [hSk];rfl
    rw [en] at h
    have fin:∀t2:SetTable,TabG (!zbs w) t2→t2.fits es1.size=true→wpAny (model prog w) A (storeSet a es1 t2 >>= fun _=>if (!wasDummy&&t2.tooFull)=true then
          (match (relayAll t2 es1 (SetTable.grown es1.size)).2.2 with|true=>rule "set.scan.the-table-gave-way"|false=>pure ()) >>= fun _=>storeSet a (relayAll t2 es1 (SetTable.grown es1.size)).1 (relayAll t2 es1 (SetTable.grown es1.size)).2.1 >>= fun _=>pure (some true)
        else pure (some true)) (fun r s'=>∃h',s'={ s with heap:=h' }∧r=some true∧Heap.SameBut a s.heap h'∧SetG w prog h' a (fun k'=>S k'||decide (k'=k)) (n+1)) E s:=by
      intro t2 g2 f2
      refine wpAny_bind (wpAny_storeSet_of ho hd ?_ hz)
      have o1:=zdH ho hd es1 t2
      have b1:=Heap.SameBut.update s.heap a (Obj.putSet es1 t2)
      split
      · have hp:=relayAll_perm t2 es1 (SetTable.grown es1.size)
        have hfr:=relayAll_fits t2 es1 (SetTable.grown es1.size)
        have g3:=yeR g2 es1 (SetTable.grown es1.size)
        generalize relayAll t2 es1 (SetTable.grown es1.size)=Rl at hp hfr g3 ⊢
        obtain ⟨es2,t3,gave2⟩:=Rl
        dsimp only at hp hfr g3 ⊢
        have hsz:es2.size=es1.size:=by rw [←Array.length_toList,hp.length_eq,Array.length_toList]
        have rest:wpAny (model prog w) A (storeSet a es2 t3 >>= fun _=>pure (some true)) (fun r s'=>∃h',s'={ s with heap:=h' }∧r=some true∧Heap.SameBut a s.heap h'∧SetG w prog h' a (fun k'=>S k'||decide (k'=k)) (n+1)) E { s with heap:=s.heap.update a (Obj.putSet es1 t2) }:=by
          refine wpAny_bind (wpAny_storeSet_of o1 rfl ?_ (by omega))
          exact wpAny_pure ⟨_,rfl,rfl,b1.trans (Heap.SameBut.update _ a _),_,es2,_,t3,zdH o1 rfl es2 t3,hex,rfl,hel1.perm hp,fun k'=>(hmem1 k').trans ⟨fun ⟨e,he,q⟩=>⟨e,hp.mem_iff.mpr he,q⟩,fun ⟨e,he,q⟩=>⟨e,hp.mem_iff.mp he,q⟩⟩,by omega,hfr,by omega,g3⟩
        cases gave2
        · exact wpAny_bind (wpAny_pure rest)
        · exact wpAny_bind (wpAny_rule rest)
      · exact wpAny_pure ⟨_,rfl,rfl,b1,_,es1,_,t2,o1,hex,rfl,hel1,hmem1,by omega,f2,hsz1,g2⟩
    have hgw:∀(b:Bool) {s₁:Shared} {Q':Unit→Shared→Prop},Q' () s₁→wpAny (model prog w) A (match b with|true=>rule "set.scan.the-table-gave-way"|false=>pure ()) Q' E s₁ :=
      fun b s₁ Q' hq=>by cases b <;> first|exact wpAny_pure hq|exact wpAny_rule hq
    refine wpAny_bind (hgw gave ?_)
    split
    · refine wpAny_bind ?_
      rw [hashByValue_scannable 8 hsc]
      refine wpAny_pure ?_
      refine thn (fin t1 hG1 hfits) fun r s' ⟨h',e1,e2,b,g⟩=>?_
      subst e1;subst e2
      exact wpAny_pure (h h' true b g)
    · refine wpAny_bind (wpAny_pure ?_)
      refine thn (fin t1 hG1 hfits) fun r s' ⟨h',e1,e2,b,g⟩=>?_
      subst e1;subst e2
      exact wpAny_pure (h h' true b g)
theorem SetG.at {h h':Heap} {a:Addr} {S:Int→Bool} {n:Nat} (x:SetG w prog h a S n) (e:∀o,h.get? a=some o→h'.get? a=some o):SetG w prog h' a S n:=by
  obtain ⟨o,es,ep,t,ho,r⟩:=x
  exact ⟨o,es,ep,t,e o ho,r⟩
theorem SetG.congr {h:Heap} {a:Addr} {S S':Int→Bool} {n n':Nat} (x:SetG w prog h a S n) (e:∀k,S k=S' k) (en:n=n'):SetG w prog h a S' n':=by
  have:S=S':=funext e
  subst this;subst en;exact x
section
variable {R:Result→Shared→Prop} {I:Addr} {fp wr:List Addr} {G:Array GenState→Array GenState→Prop} {n:Nat} {P:Nat→Value→Prop} {St:Nat→Shared→Prop}
theorem yhe (W:WalksS prog w A.in1 I fp wr G n P St) (S:Addr) (hSf:S∉fp) (val:Nat→Int) (hval:∀i v,P i v→∃t,v = .int (val i) t) (hb:n+1<scanBound):∀(k i:Nat) (s:Shared),n-i=k→i≤n→St i s→
      SetG w prog s.heap S (fun k'=>(firstMet val i).any (·==k')) (firstMet val i).length→
      (∀s',Moved (S::wr) G s s'→SetG w prog s'.heap S (fun k'=>(firstMet val n).any (·==k')) (firstMet val n).length→R (.ok (.ret .none)) s')→
      codeAny (model prog w) A (.builtin "set.update.loop" ⟨[.ref S,.ref I],[]⟩) R s:=by
  have hSw:S∉wr:=fun h=>hSf (W.sub _ h)
  have hsub:∀b∈wr,b∈S::wr:=fun b hb=>List.mem_cons_of_mem _ hb
  intro k
  induction k with
  | zero =>
    intro i s hk hi hst hS hR
    obtain rfl:i=n:=by omega
    refine codeAny_builtin F.entry_set_update_loop ?_
    rw [Around.under_plainId F.plain_set_update_loop _]
    show wpAny _ A.in1 (pyNext (.ref I) >>= _) _ _ s
    refine wpAny_bind (W.done s _ _ hst fun s' hm=>?_)
    exact wpAny_pure (hR s' (hm.mono hsub) (hS.at fun o e=>hm.heap S o hSw e))
  | succ k ih =>
    intro i s hk hi hst hS hR
    have hlt:i<n:=by omega
    refine codeAny_builtin F.entry_set_update_loop ?_
    rw [Around.under_plainId F.plain_set_update_loop _]
    show wpAny _ A.in1 (pyNext (.ref I) >>= _) _ _ s
    refine wpAny_bind (W.item i s _ _ hlt hst fun v s' hP hst' hm=>?_)
    obtain ⟨t,rfl⟩:=hval i v hP
    have hS':=hS.at (h':=s'.heap) fun o e=>hm.heap S o hSw e
    show wpAny _ A.in1 (holding [Value.int (val i) t] (setAdd S (.int (val i) t)) >>= _) _ _ s'
    refine wpAny_bind (wpAny_holding ?_)
    unfold setAdd
    refine wpAny_holding (wpAny_bind ((intKind prog w).pyHash (k:=val i) (intKind_is _ _ _ _) ?_))
    have hroom:(firstMet val i).length+1<scanBound:=by have:=firstMet_length_le val i;omega
    refine zhu (s:={ s' with toks:=s'.toks+1 }) hS' hroom fun h' b hsb hS2=>?_
    have hSi:SetG w prog h' S (fun k'=>(firstMet val (i+1)).any (·==k')) (firstMet val (i+1)).length:=hS2.congr (fun k'=>by rw [firstMet_succ,step_any]) (by rw [firstMet_succ,step_length])
    refine wpAny_pure ⟨plainId_quiet F.plain_set_update_loop _,ih (i+1) _ (by omega) hlt (W.frame _ s' _ _ hst' (Nat.le_succ _) fun b hb o e=>?_) hSi fun s'' hm'' hS''=>?_⟩
    · rw [hsb.2 b (fun h:b=S=>hSf (by rw [←h];exact hb))];exact e
    · refine hR s'' (Moved.trans W.gtrans ((hm.mono hsub).then_heap (Nat.le_succ _) fun b o hb e=>?_) hm'') hS''
      rw [hsb.2 b (fun h:b=S=>hb (by rw [h];exact List.mem_cons_self))];exact e
end
abbrev ybx (w:World):Obj:={ cls:=.type "set",dict:=none,data:=.set #[] 0 (.fresh 0 0 (!zbs w)) }
theorem zf8 {h:Heap} {a:Addr} (e:h.get? a=some (ybx w)):SetG w prog h a (fun _=>false) 0 :=
  ⟨_,#[],0,_,e,⟨rfl,rfl,rfl⟩,rfl,fun e he=>by simp at he,fun k=>by simp,by decide,by rfl,rfl,⟨rfl,fun _=>List.Pairwise.nil⟩⟩
theorem zfF (a:Value) {Q₁:Value→Shared→Prop} (h:Q₁ (.ref s.heap.objs.size) { s with heap:=s.heap.push (ybx w) }) :
    codeAny (model prog w) A (.call (.builtin "set.__new__") ⟨[.type "set",a],[]⟩) (wants Q₁ E) s:=by
  refine codeAny_of_tree ?_
  show wpAny _ A.in1 (do checkBuiltinCall "set.__new__" ⟨[.type "set",a],[]⟩;again (.builtin "set.__new__" ⟨[.type "set",a],[]⟩)) _ _ s
  refine wpAny_bind (wpAny_of_eq (F.newCall_set_1 a) (wpAny_pure ⟨plainId_quiet F.plain_set_new _,codeAny_builtin F.entry_set_new ?_⟩))
  rw [Around.under_plainId F.plain_set_new _]
  unfold Builtin.«set.__new__» Builtin.Frozenset.newClass
  have hsub:=sub_set_self
  obtain ⟨hp,g,d,tk,os⟩:=s
  dsimp only
  wp_walk
  refine wpAny_askSetting (wpAny_pure ?_)
  dsimp only
  simp only [newObj]
  refine wpAny_bind (wpAny_alloc (wpAny_pure ?_))
  exact wpAny_pure h
set_option maxHeartbeats 8000000 in
theorem zeH {l:Addr} {items:Array Value} {ns:List Int} {Q:Value→Shared→Prop} (hh:A.handled=none) (hl:s.heap.IsList l items) (hi:IntsAre items.toList ns) (hb:items.size+1<scanBound)
    (h:∀(h':Heap) (tk:Nat),SetG w prog h' s.heap.objs.size (fun k'=>(firstMet (fun i=>ns.getD i 0) items.size).any (·==k')) (firstMet (fun i=>ns.getD i 0) items.size).length→
      (∀b o,s.heap.get? b=some o→h'.get? b=some o)→Q (.ref s.heap.objs.size) { s with heap:=h',toks:=tk }) :
    wpAny (model prog w) A (call (.type "set") [.ref l]) Q E s:=by
  obtain ⟨c,tl,hmro⟩:=F.called_set.mro
  have hmade:=F.called_set.made
  have hsub:=F.called_set.sub
  refine wpAny_call (codeAny_of_tree ?_)
  show wpAny _ _ (callAny (.type "set") _) _ _ _
  refine wpAny_pure ⟨Code.quiet_builtin _ (by decide +kernel),codeAny_builtin F.entry_type_call ?_⟩
  rw [Around.under_plain (weight_type_call_type "set" [.ref l] []) rfl]
  have h1:=F.called_set.notType
  have h2:=F.called_set.canCreate
  have hct:=F.typeCall_set_1 (.ref l)
  repeat (any_goals (first|assumption|wp_step))
  refine codeAny_mono (zfF (.ref l) (E:=E) (Q₁:=fun obj s₁=>obj = .ref s.heap.objs.size∧s₁={ s with heap:=s.heap.push (ybx w) }) ⟨rfl,rfl⟩) fun r s₁ hr=>?_
  cases r with
  | error e=>exact hr
  | ok fl =>
    cases fl with
    | ret obj =>
      obtain ⟨rfl,rfl⟩:=hr
      have hS:(s.heap.push (ybx w)).get? s.heap.objs.size=some (ybx w):=Heap.get?_push_size _ rfl
      have hT:Shared.TypeIs { s with heap:=s.heap.push (ybx w) } (.ref s.heap.objs.size) "set":=⟨_,hS,rfl⟩
      have hli:=F.called_set.init.lookup
      have hbi:=F.called_set.init.bind (.ref s.heap.objs.size)
      repeat (any_goals (first|assumption|wp_step))
      refine codeAny_mono (codeAny_call_builtin (R:=wants (fun r s₂=>r = .none∧∃h' tk,s₂={ s with heap:=h',toks:=tk }∧
          SetG w prog h' s.heap.objs.size (fun k'=>(firstMet (fun i=>ns.getD i 0) items.size).any (·==k')) (firstMet (fun i=>ns.getD i 0) items.size).length∧
          (∀b o,s.heap.get? b=some o→h'.get? b=some o)) E) F.called_set.init.plain F.entry_set_init (check_set_init_1 hT ?_)) fun r₂ s₂ hr₂=>?_
      · obtain ⟨ol,hol,hcl,nl,hdl⟩:=hl
        obtain ⟨ocls,odict,odata,oslots⟩:=ol
        simp only at hcl hdl
        subst hcl;subst hdl
        have hol':(s.heap.push (ybx w)).get? l=some { cls:=.type "list",dict:=odict,data:=.seq items nl,slots:=oslots }:=Heap.get?_push_of_some _ hol
        have hsls:=F.sub_list_set
        have hslf:=F.sub_list_frozenset
        have hne:(Value.type "list"==Value.type "dict")=false:=by decide
        have hl1:(s.heap.push (ybx w)).IsList l items:=⟨_,hol',rfl,nl,rfl⟩
        unfold Builtin.«set.__init__» noKeywords Builtin.Frozenset.updateFrom
        generalize hPI:pyIter=PI
        wp_walk
        subst hPI
        refine wpAny_pyIter_list hl1 ?_
        refine wpAny_bind (wpAny_runValue ?_)
        have hlS:l<s.heap.objs.size:=Heap.lt_size hol
        have hneI:l≠(s.heap.push (ybx w)).objs.size:=by rw [Heap.size_push];exact Nat.ne_of_lt (Nat.lt_succ_of_lt hlS)
        have hSf:s.heap.objs.size∉[(s.heap.push (ybx w)).objs.size,l]:=by
          rw [Heap.size_push];simp only [List.mem_cons,List.not_mem_nil,or_false,not_or]
          exact ⟨Nat.ne_of_lt (Nat.lt_succ_self _),Nat.ne_of_gt hlS⟩
        refine yhe ((Walks.list (by simp [hh]) _ l hneI items).toS) s.heap.objs.size hSf (fun i=>ns.getD i 0) (fun i v hv=>IntsAre.int_at hi i v (by rw [Array.getElem?_toList];exact hv)) hb (items.size-0) 0 _ (by omega) (Nat.zero_le _)
          ⟨⟨_,Heap.get?_push_size _ rfl,rfl,rfl⟩,(hl1.push _)⟩ ((zf8 (Heap.get?_push_of_some _ hS)).congr (fun _=>rfl) rfl) fun s' hm hS'=>?_
        obtain ⟨h',g',d',tk',os'⟩:=s'
        obtain rfl:g'=s.gens:=hm.gens
        obtain rfl:d'=s.drawn:=hm.drawn
        obtain rfl:os'=s.os:=hm.os
        show wpAny _ _ _ _ _ _
        refine wpAny_pure ?_
        show wpAny _ _ (ret Value.none) _ _ _
        refine wpAny_pure ⟨rfl,h',tk',rfl,hS',fun b o e=>?_⟩
        have hb:=Heap.lt_size e
        refine hm.heap b o ?_ (Heap.get?_push_of_some _ (Heap.get?_push_of_some _ e))
        simp only [List.mem_cons,List.not_mem_nil,or_false,not_or]
        rw [Heap.size_push]
        exact ⟨Nat.ne_of_lt hb,Nat.ne_of_lt (Nat.lt_succ_of_lt hb)⟩
      · cases r₂ with
        | error e=>exact hr₂
        | ok fl₂ =>
          cases fl₂ with
          | ret r =>
            obtain ⟨rfl,h',tk,rfl,hS',hk'⟩:=hr₂
            repeat (any_goals (first|assumption|wp_step))
            exact h _ _ hS' hk'
          | _=>exact hr₂.elim
    | _=>exact hr.elim
end
end L2
end
section
-- text: ExtP
namespace L2
open PySem PyProof.Rows
theorem ybt:Manifest.owners.lookup (String.ofList ['r','o','t','a','r','e','t','i','_','t','e','s'].reverse)=some Manifest.sig_set_iterator:=by kernel_rfl
theorem zav:Slot "set_iterator" "__next__" "set_iterator.__next__" :=
  .of (owner:="set_iterator") (n:="__next__") (by rw [typeLookup_type,builtinLookup_eq_fast];kernel_rfl) (by decide +kernel) (by decide +kernel) (by decide +kernel)
    (by first|exact .inl (by decide +kernel)|exact .inr (by decide +kernel)) (by rw [isSubtype_type];kernel_rfl)
theorem zbl:entryFor table "set_iterator.__next__"=some Builtin.«set_iterator.__next__»:=entryFor_of_tree (by kernel_rfl)
theorem zbd (a:Value):argsOk "set_iterator.__next__" ⟨[a],[]⟩:=by
  unfold argsOk;rw [signature?_of (id:="set_iterator.__next__") (n:=['_','_','t','x','e','n','_','_']) (o:=['r','o','t','a','r','e','t','i','_','t','e','s']) (by kernel_rfl) ybt];kernel_rfl
theorem ycZ:entryFor table "set.__iter__"=some Builtin.«frozenset.__iter__» :=
  entryFor_alias (id':="frozenset.__iter__") (by kernel_rfl) (by first|rfl|decide +kernel|(unfold String.splitOn;simp +decide [String.splitOnAux])) (by decide +kernel) (by kernel_rfl)
def IsSI (h:Heap) (I S:Addr) (first:Value) (i n ep:Nat):Prop:=∃o,h.get? I=some o∧o.cls = .type "set_iterator"∧o.data = .fields #[first,rawInt i,.ref S,rawInt n,rawInt ep]
theorem IsSI.at {h h':Heap} {I S:Addr} {first:Value} {i n ep:Nat} (x:IsSI h I S first i n ep) (e:∀o,h.get? I=some o→h'.get? I=some o):IsSI h' I S first i n ep:=let ⟨o,ho,r⟩:=x;⟨o,e _ ho,r⟩
def yct (h:Heap) (S:Addr) (es:Array (Int×Value)) (ep:Nat) (t:SetTable):Prop:=∃o,h.get? S=some o∧o.data = .set es ep t∧t.fits es.size=true
theorem yct.at {h h':Heap} {S:Addr} {es:Array (Int×Value)} {ep:Nat} {t:SetTable} (x:yct h S es ep t) (e:∀o,h.get? S=some o→h'.get? S=some o):yct h' S es ep t:=let ⟨o,ho,r⟩:=x;⟨o,e _ ho,r⟩
section
variable {prog:Program} {w:World} {A:Around} {E:Value→Shared→Prop} {s:Shared}
theorem IsSI.typeIs {I S:Addr} {first:Value} {i n ep:Nat} (x:IsSI s.heap I S first i n ep):s.TypeIs (.ref I) "set_iterator":=let ⟨o,ho,hc,_⟩:=x;⟨o,ho,hc⟩
def ygn (prog:Program) (w:World) (s:Shared) (S:Addr) (slot i ep:Nat) (r:Option (Value×Nat)):Prop:=∀(A:Around) (E:Value→Shared→Prop) (Q:Option (Value×Nat)→Shared→Prop),Q r s→wpAny (model prog w) A (setNext S slot i ep) Q E s
theorem yeZ {I S:Addr} {slot i ep nx:Nat} {es:Array (Int×Value)} {t:SetTable} {x:Value} {Q:Option Value→Shared→Prop} (hit:IsSI s.heap I S (rawInt slot) i es.size ep) (hs:yct s.heap S es ep t) (hT:ygn prog w s S slot i ep (some (x,nx)))
    (hQ:∀h',IsSI h' I S (rawInt nx) (i+1) es.size ep→Heap.SameBut I s.heap h'→Q (some x) { s with heap:=h' }):wpAny (model prog w) A (pyNext (.ref I)) Q E s:=by
  obtain ⟨o,ho,hc,hd⟩:=id hit
  obtain ⟨os,hos,hds,hf⟩:=id hs
  unfold pyNext
  refine wpAny_bind (wpAny_attempt (wpAny_callSpecial?_slot (name:=Str.ofString "__next__") hit.typeIs zav
    (wpAny_call_entry zav hit.typeIs zbl ?_ (zbd _))))
  unfold Builtin.«set_iterator.__next__»
  refine wpAny_bind (wpAny_of_eq (a:=(Value.ref I,[])) rfl ?_)
  try dsimp only
  refine wpAny_bind (wpAny_fieldsOf ho hd ?_)
  simp only [rawInt]
  refine wpAny_bind (wpAny_setEntries_of hos hds hf ?_)
  refine wpAny_ite_split (fun h=>absurd h (by simp)) (fun _=>?_)
  refine wpAny_bind (hT _ _ _ ?_)
  dsimp only
  refine wpAny_bind (wpAny_setField ho hd (by simp) ?_)
  have h1:=Heap.get?_update_self (Obj.mapFields (fun vs=>vs.setIfInBounds 0 (Value.int nx 0))) ho (Obj.isFreed_of_fields (Obj.data_mapFields hd _))
  refine wpAny_bind (wpAny_setField h1 (Obj.data_mapFields hd _) (by simp) ?_)
  refine wpAny_pure ⟨x,rfl,wpAny_pure (hQ _ ?_ ((Heap.SameBut.update ..).trans (Heap.SameBut.update ..)))⟩
  exact ⟨_,Heap.get?_update_self _ h1 (Obj.isFreed_of_fields (Obj.data_mapFields (Obj.data_mapFields hd _) _)),(Obj.cls_mapFields ..).trans ((Obj.cls_mapFields ..).trans hc),by rw [Obj.data_mapFields (Obj.data_mapFields hd _)];simp [rawInt]⟩
theorem zfH {I:Addr} {Q:Option Value→Shared→Prop} (hh:A.handled=none) {s1:Shared} (hQ:∀h' tk,(∀b o,s1.heap.get? b=some o→h'.get? b=some o)→Q none { s1 with heap:=h',toks:=tk }) :
    wpAny (model prog w) A.in1 (newExc (.type "StopIteration") [] >>= fun e=>raiseNew e) (fun fin s'=>∃v,fin=Fin.done (Flow.ret v)∧wpAny (model prog w) A (pure (some v)) Q E s')
      (fun e s'=>wpAny (model prog w) A (do if (←isInstance e (.type "StopIteration"))=true then pure none else throw e) Q E s') s1:=by
  refine wpAny_bind ?_
  simp only [newExc,newTuple]
  refine wpAny_bind (wpAny_newObj_type ?_ (by size_fits))
  refine wpAny_bind (m:=firstArgMember _ _) (wpAny_of_eq (a:=Value.none) (by first|rfl|(simp only [firstArgMember];rfl)) ?_)
  refine wpAny_newObj_type ?_ (by size_fits)
  simp only [raiseNew]
  refine wpAny_bind (wpAny_handled ?_)
  first|rw [show A.in1.handled=none from hh]|rw [hh]
  refine wpAny_bind (wpAny_pure (wpAny_throw ?_))
  refine wpAny_bind (wpAny_isInstance (T:="StopIteration") (b:=true) ⟨_,Heap.get?_push_size _ rfl,rfl⟩ isSubtype_stop ?_)
  exact wpAny_pure (hQ _ _ fun b o' e=>Heap.get?_push_of_some _ (Heap.get?_push_of_some _ e))
theorem ygx {I S:Addr} {slot i ep:Nat} {es:Array (Int×Value)} {t:SetTable} {Q:Option Value→Shared→Prop} (hh:A.handled=none) (hit:IsSI s.heap I S (rawInt slot) i es.size ep) (hs:yct s.heap S es ep t) (hT:ygn prog w s S slot i ep none)
    (hQ:∀h' tk,Heap.ExtBut I s.heap h'→Q none { s with heap:=h',toks:=tk }):wpAny (model prog w) A (pyNext (.ref I)) Q E s:=by
  obtain ⟨o,ho,hc,hd⟩:=id hit
  obtain ⟨os,hos,hds,hf⟩:=id hs
  unfold pyNext
  refine wpAny_bind (wpAny_attempt (wpAny_callSpecial?_slot (name:=Str.ofString "__next__") hit.typeIs zav
    (wpAny_call_entry zav hit.typeIs zbl ?_ (zbd _))))
  unfold Builtin.«set_iterator.__next__»
  refine wpAny_bind (wpAny_of_eq (a:=(Value.ref I,[])) rfl ?_)
  try dsimp only
  refine wpAny_bind (wpAny_fieldsOf ho hd ?_)
  simp only [rawInt]
  refine wpAny_bind (wpAny_setEntries_of hos hds hf ?_)
  refine wpAny_ite_split (fun h=>absurd h (by simp)) (fun _=>?_)
  refine wpAny_bind (hT _ _ _ ?_)
  dsimp only
  refine wpAny_bind (wpAny_setField ho hd (by simp) ?_)
  refine zfH (I:=I) hh fun h' tk k=>hQ h' tk fun b o' hb e=>k b o' ((Heap.get?_update_other _ _ (Ne.symm hb)).trans e)
theorem zgV {I S T:Addr} {i ep pl:Nat} {es:Array (Int×Value)} {t:SetTable} {places:Array Value} {kx:Int×Value} {tk:Tok} {Q:Option Value→Shared→Prop} (hit:IsSI s.heap I S (.ref T) i es.size ep) (hs:yct s.heap S es ep t) (ht:s.heap.IsTuple T places)
    (hp:places[i]?=some (.int pl tk)) (hx:es[pl]?=some kx)
    (hQ:∀h',IsSI h' I S (.ref T) (i+1) es.size ep→Heap.SameBut I s.heap h'→Q (some kx.2) { s with heap:=h' }):wpAny (model prog w) A (pyNext (.ref I)) Q E s:=by
  obtain ⟨o,ho,hc,hd⟩:=id hit
  obtain ⟨os,hos,hds,hf⟩:=id hs
  obtain ⟨ot,hot,hct,nt,hdt⟩:=id ht
  unfold pyNext
  refine wpAny_bind (wpAny_attempt (wpAny_callSpecial?_slot (name:=Str.ofString "__next__") hit.typeIs zav
    (wpAny_call_entry zav hit.typeIs zbl ?_ (zbd _))))
  unfold Builtin.«set_iterator.__next__»
  refine wpAny_bind (wpAny_of_eq (a:=(Value.ref I,[])) rfl ?_)
  try dsimp only
  refine wpAny_bind (wpAny_fieldsOf ho hd ?_)
  simp only [rawInt]
  refine wpAny_bind (wpAny_setEntries_of hos hds hf ?_)
  refine wpAny_ite_split (fun h=>absurd h (by simp)) (fun _=>?_)
  unfold seqItems?
  refine wpAny_bind (wpAny_bind (wpAny_load hot ?_))
  rw [hdt]
  refine wpAny_pure ?_
  dsimp only
  rw [Int.toNat_natCast,hp]
  dsimp only
  unfold setNextDrawn
  refine wpAny_bind (wpAny_bind (wpAny_setState_of hos hds hf ?_))
  dsimp only
  refine wpAny_ite_split (fun h=>absurd h (by simp)) (fun _=>?_)
  rw [Int.toNat_natCast,hx]
  obtain ⟨k0,x⟩:=kx
  refine wpAny_pure ?_
  refine wpAny_bind (wpAny_setField ho hd (by simp) ?_)
  refine wpAny_pure ⟨x,rfl,wpAny_pure (hQ _ ?_ (Heap.SameBut.update ..))⟩
  exact ⟨_,Heap.get?_update_self _ ho (Obj.isFreed_of_fields (Obj.data_mapFields hd _)),(Obj.cls_mapFields ..).trans hc,by rw [Obj.data_mapFields hd];simp [rawInt]⟩
theorem zg3 {I S T:Addr} {i ep:Nat} {es:Array (Int×Value)} {t:SetTable} {places:Array Value} {Q:Option Value→Shared→Prop} (hh:A.handled=none) (hit:IsSI s.heap I S (.ref T) i es.size ep) (hs:yct s.heap S es ep t) (ht:s.heap.IsTuple T places)
    (hp:places[i]?=none) (hQ:∀h' tk,Heap.ExtBut I s.heap h'→Q none { s with heap:=h',toks:=tk }):wpAny (model prog w) A (pyNext (.ref I)) Q E s:=by
  obtain ⟨o,ho,hc,hd⟩:=id hit
  obtain ⟨os,hos,hds,hf⟩:=id hs
  obtain ⟨ot,hot,hct,nt,hdt⟩:=id ht
  unfold pyNext
  refine wpAny_bind (wpAny_attempt (wpAny_callSpecial?_slot (name:=Str.ofString "__next__") hit.typeIs zav
    (wpAny_call_entry zav hit.typeIs zbl ?_ (zbd _))))
  unfold Builtin.«set_iterator.__next__»
  refine wpAny_bind (wpAny_of_eq (a:=(Value.ref I,[])) rfl ?_)
  try dsimp only
  refine wpAny_bind (wpAny_fieldsOf ho hd ?_)
  simp only [rawInt]
  refine wpAny_bind (wpAny_setEntries_of hos hds hf ?_)
  refine wpAny_ite_split (fun h=>absurd h (by simp)) (fun _=>?_)
  unfold seqItems?
  refine wpAny_bind (wpAny_bind (wpAny_load hot ?_))
  rw [hdt]
  refine wpAny_pure ?_
  dsimp only
  rw [Int.toNat_natCast,hp]
  dsimp only
  refine wpAny_bind (wpAny_setField ho hd (by simp) ?_)
  have h1:=Heap.get?_update_self (Obj.mapFields (fun vs=>vs.setIfInBounds 0 (Value.int 0 0))) ho (Obj.isFreed_of_fields (Obj.data_mapFields hd _))
  refine wpAny_bind (wpAny_setField h1 (Obj.data_mapFields hd _) (by simp) ?_)
  refine zfH (I:=I) hh fun h' tk k=>hQ h' tk fun b o' hb e=>k b o' ((Heap.get?_update_other _ _ (Ne.symm hb)).trans ((Heap.get?_update_other _ _ (Ne.symm hb)).trans e))
theorem zc7 {S:Addr} {es:Array (Int×Value)} {ep:Nat} {t:SetTable} (hs:yct s.heap S es ep t) (hb:zbs w=true) (slot i:Nat):ygn prog w s S slot i ep (((pickOrder (w.params.setOrder S ep) es)[i]?).map fun e=>(e.2,slot)):=by
  intro A E Q hQ
  obtain ⟨os,hos,hds,hf⟩:=id hs
  unfold setNext setWalk setsByText
  refine wpAny_bind (wpAny_setState_of hos hds hf ?_)
  dsimp only
  refine wpAny_bind (wpAny_bind (wpAny_askSetting (wpAny_pure ?_)))
  refine wpAny_ite_split (fun _=>?_) (fun h=>absurd hb h)
  refine wpAny_ite_split (fun h=>absurd h (by simp)) (fun _=>?_)
  refine wpAny_bind (wpAny_bind (wpAny_setState_of hos hds hf ?_))
  dsimp only
  refine wpAny_bind (wpAny_bind (wpAny_askSetting (wpAny_pure ?_)))
  refine wpAny_ite_split (fun _=>?_) (fun h=>absurd hb h)
  refine wpAny_bind (wpAny_askSetting ?_)
  exact wpAny_pure (wpAny_pure hQ)
theorem zcK {S:Addr} {es:Array (Int×Value)} {ep:Nat} {t:SetTable} (hs:yct s.heap S es ep t) (hb:zbs w=false) (hl:t.led=true) (hp:t.plain=true∨es.size≤1) (slot i:Nat) :
    ygn prog w s S slot i ep (match es[SetTable.below t.place slot]?,t.place[SetTable.below t.place slot]? with|some (_,x),some j=>some (x,j+1)|_,_=>none):=by
  intro A E Q hQ
  obtain ⟨os,hos,hds,hf⟩:=id hs
  unfold setNext setsByText
  refine wpAny_bind (wpAny_setState_of hos hds hf ?_)
  dsimp only
  refine wpAny_bind (wpAny_bind (wpAny_askSetting (wpAny_pure ?_)))
  refine wpAny_ite_split (fun h=>absurd (show zbs w=true from h) (by rw [hb];decide)) (fun _=>?_)
  refine wpAny_ite_split (fun h=>?_) (fun _=>?_)
  · have h':(!t.plain&&decide (es.size>1))=true:=h
    simp only [Bool.and_eq_true,Bool.not_eq_true',decide_eq_true_eq] at h'
    rcases hp with hp|hp
    · rw [hp] at h';exact absurd h'.1 (by decide)
    · omega
  refine wpAny_bind ?_
  show wpAny _ _ (if (!t.led&&!es.isEmpty)=true then unsupported "set:maker-not-led" else pure ()) _ _ _
  refine wpAny_ite_split (fun h=>absurd h (by rw [hl];simp)) (fun _=>?_)
  refine wpAny_pure ?_
  exact wpAny_pure hQ
end
end L2
end
section
-- text: ExtQ
namespace L2
open PySem PyProof.Rows
section
variable {prog:Program} {w:World} {A:Around} {E:Value→Shared→Prop} {s:Shared}
theorem ycg {α:Type}:∀(l:List α) (i:Nat) (h:i<l.length),(l[i]::l.eraseIdx i).Perm l
  | [],i,h=>absurd h (Nat.not_lt_zero _)
  | x::l,0,h=>List.Perm.refl _
  | x::l,i+1,h=>by
    show (l[i]'(by simpa using h)::x::l.eraseIdx i).Perm (x::l)
    exact (List.Perm.swap _ _ _).trans (List.Perm.cons _ (ycg l i (by simpa using h)))
theorem zfQ {α:Type} (f:Nat→Nat):∀(n k:Nat) (l:List α) (out:Array α),l.length=n→(pickOrder.go f n k l out).toList.Perm (out.toList++l)
  | 0,k,l,out,h=>by
    have:l=[]:=List.length_eq_zero_iff.mp h
    subst this
    unfold pickOrder.go
    rw [List.append_nil]
  | n+1,k,l,out,h=>by
    have hi:f k%l.length<l.length:=Nat.mod_lt _ (by omega)
    unfold pickOrder.go
    rw [List.getElem?_eq_getElem hi]
    dsimp only
    have ih:=zfQ f n (k+1) (l.eraseIdx (f k%l.length)) (out.push l[f k%l.length]) (by rw [List.length_eraseIdx_of_lt hi];omega)
    refine ih.trans ?_
    rw [Array.toList_push,List.append_assoc]
    exact List.Perm.append_left _ (ycg _ _ hi)
theorem zcW {α:Type} (f:Nat→Nat) (xs:Array α):(pickOrder f xs).toList.Perm xs.toList:=by
  have:=zfQ f xs.size 0 xs.toList #[] (by simp)
  simpa [pickOrder] using this
theorem yds {src:Source} {n:Nat} {Q:Nat→Shared→Prop} {M:Model} (hn:n≠0) (h:∀x d',x<n→Q x { s with drawn:=d' }):wpAny M A (choose src n) Q E s:=fun _ _ _=>⟨hn,h _ _ (Nat.mod_lt _ (by omega))⟩
theorem ydY {α:Type} {M:Model}:∀(n:Nat) (xs:List α) (s:Shared) (Q:List α→Shared→Prop),xs.length=n→(∀r d',r.Perm xs→Q r { s with drawn:=d' })→wpAny M A (drawOrder n xs) Q E s
  | 0,xs,s,Q,h,hQ=>by
    have:xs=[]:=List.length_eq_zero_iff.mp h
    subst this
    unfold drawOrder
    exact wpAny_pure (hQ [] s.drawn .nil)
  | n+1,xs,s,Q,h,hQ=>by
    cases xs with
    | nil=>cases h
    | cons y ys =>
      unfold drawOrder
      refine wpAny_bind (yds (by simp) fun i d' hi=>?_)
      rw [List.getElem?_eq_getElem hi]
      dsimp only
      refine wpAny_bind (ydY n _ _ _ (by rw [List.length_eraseIdx_of_lt hi];simp at h;simp;omega) fun r d2 hr=>?_)
      exact wpAny_pure (hQ _ d2 ((List.Perm.cons _ hr).trans (ycg _ _ hi)))
abbrev GE:Array GenState→Array GenState→Prop:=fun a b=>b=a
theorem zcr:Slot "set_iterator" "__iter__" "set_iterator.__iter__" :=
  .of (owner:="set_iterator") (n:="__iter__") (by rw [typeLookup_type,builtinLookup_eq_fast];kernel_rfl) (by decide +kernel) (by decide +kernel) (by decide +kernel)
    (by first|exact .inl (by decide +kernel)|exact .inr (by decide +kernel)) (by rw [isSubtype_type];kernel_rfl)
theorem yc0 (a:Value):argsOk "set_iterator.__iter__" ⟨[a],[]⟩:=by
  unfold argsOk;rw [signature?_of (id:="set_iterator.__iter__") (n:=['_','_','r','e','t','i','_','_']) (o:=['r','o','t','a','r','e','t','i','_','t','e','s']) (by kernel_rfl) ybt];kernel_rfl
theorem zdo:entryFor table "set_iterator.__iter__"=some Builtin.«dict_keyiterator.__iter__» :=
  entryFor_alias (id':="dict_keyiterator.__iter__") (by kernel_rfl) (by first|rfl|decide +kernel|(unfold String.splitOn;simp +decide [String.splitOnAux])) (by decide +kernel) (by kernel_rfl)
theorem ycE {I S:Addr} {first:Value} {i n ep:Nat} {Q:Value→Shared→Prop} (hit:IsSI s.heap I S first i n ep) (h:Q (.ref I) s):wpAny (model prog w) A (pyIter (.ref I)) Q E s:=by
  refine wpAny_pyIter_slot hit.typeIs zcr (wpAny_call_entry zcr hit.typeIs zdo ?_ (yc0 _))
  show wpAny _ _ (ret (.ref I)) _ _ s
  exact wpAny_pure ⟨_,rfl,"set_iterator",_,hit.typeIs,zav.lookup,h⟩
theorem zfC {I S:Addr} {es:Array (Int×Value)} {ep:Nat} {t:SetTable} (hh:A.handled=none) (hne:S≠I) (hb:zbs w=true) :
    WalksS prog w A I [I,S] [I] GE es.size (fun i v=>((pickOrder (w.params.setOrder S ep) es).toList.map (·.2))[i]?=some v) (fun i s=>IsSI s.heap I S (rawInt ((0:Nat):Int)) i es.size ep∧yct s.heap S es ep t) where
  sub:=fun b hb=>by simp at hb;simp [hb]
  grefl:=fun _=>rfl
  gtrans:=fun _ _ _ h1 h2=>h2.trans h1
  frame:=fun i s h' tk st _ hk=>⟨st.1.at fun o e=>hk I (by simp) o e,st.2.at fun o e=>hk S (by simp) o e⟩
  item:=fun i s Q E hi st hQ=>by
    have hl:(pickOrder (w.params.setOrder S ep) es).size=es.size:=by rw [←Array.length_toList,(zcW _ es).length_eq,Array.length_toList]
    have hx:(pickOrder (w.params.setOrder S ep) es)[i]?=some (pickOrder (w.params.setOrder S ep) es)[i]:=Array.getElem?_eq_getElem (by omega)
    have hT:=zc7 (prog:=prog) st.2 hb 0 i
    rw [hx] at hT
    refine yeZ st.1 st.2 hT fun h' hit' hs'=>?_
    refine hQ _ _ ?_ ⟨hit',st.2.at fun o e=>?_⟩ ⟨fun b o hb e=>?_,rfl,rfl,rfl,Nat.le_refl _⟩
    · rw [List.getElem?_map,Array.getElem?_toList,hx];rfl
    · exact hs'.extBut S o hne e
    · exact hs'.extBut b o (fun q=>hb (by simp [q])) e
  done:=fun s Q E st hQ=>by
    have hl:(pickOrder (w.params.setOrder S ep) es).size=es.size:=by rw [←Array.length_toList,(zcW _ es).length_eq,Array.length_toList]
    have hx:(pickOrder (w.params.setOrder S ep) es)[es.size]?=none:=Array.getElem?_eq_none (by omega)
    have hT:=zc7 (prog:=prog) st.2 hb 0 es.size
    rw [hx] at hT
    exact wpAny_with_toks (Nat.le_refl s.toks) (ygx hh st.1 st.2 hT fun h' tk k htk=>hQ _ ⟨fun b o hb e=>k b o (fun q=>hb (by simp [q])) e,rfl,rfl,rfl,htk⟩)
  self:=fun i s Q E st h=>ycE st.1 h
def zcp (place:Array Nat):Nat→Nat
  | 0=>0
  | i+1=>place.getD i 0+1
theorem yco {place:Array Nat} (h:Rise place):∀i,i≤place.size→SetTable.below place (zcp place i)=i
  | 0,_=>by
    obtain ⟨h1,h2,h3⟩:=zcl h 0
    show SetTable.below place 0=0
    rcases Nat.eq_zero_or_pos (SetTable.below place 0) with c|c
    · exact c
    · exact absurd (h2 0 (by omega) c) (Nat.not_lt_zero _)
  | i+1,hi=>by
    have e:zcp place (i+1)=place[i]+1:=by show place.getD i 0+1=_;simp [Array.getD,show i<place.size by omega]
    obtain ⟨h1,h2,h3⟩:=zcl h (zcp place (i+1))
    rw [e] at h1 h2 h3 ⊢
    generalize SetTable.below place (place[i]+1)=r at *
    rcases Nat.lt_trichotomy r (i+1) with c|c|c
    · have:=h3 i (by omega) (by omega);omega
    · exact c
    · have h4:=h2 (i+1) (by omega) c
      have h5:=ycy h (show i<i+1 by omega) (by omega)
      omega
theorem zeF {I S:Addr} {es:Array (Int×Value)} {ep:Nat} {t:SetTable} (hh:A.handled=none) (hne:S≠I) (hb:zbs w=false) (hl:t.led=true) (hp:t.plain=true∨es.size≤1) (hr:Rise t.place) (hz:t.place.size=es.size) :
    WalksS prog w A I [I,S] [I] GE es.size (fun i v=>(es.toList.map (·.2))[i]?=some v) (fun i s=>IsSI s.heap I S (rawInt (zcp t.place i:Nat)) i es.size ep∧yct s.heap S es ep t) where
  sub:=fun b hb=>by simp at hb;simp [hb]
  grefl:=fun _=>rfl
  gtrans:=fun _ _ _ h1 h2=>h2.trans h1
  frame:=fun i s h' tk st _ hk=>⟨st.1.at fun o e=>hk I (by simp) o e,st.2.at fun o e=>hk S (by simp) o e⟩
  item:=fun i s Q E hi st hQ=>by
    have hT:=zcK (prog:=prog) st.2 hb hl hp (zcp t.place i) i
    rw [yco hr i (by omega),Array.getElem?_eq_getElem hi,Array.getElem?_eq_getElem (show i<t.place.size by omega)] at hT
    refine yeZ (nx:=zcp t.place (i+1)) (x:=es[i].2) st.1 st.2 ?_ fun h' hit' hs'=>?_
    · have e:zcp t.place (i+1)=t.place[i]+1:=by show t.place.getD i 0+1=_;simp [Array.getD,show i<t.place.size by omega]
      rw [e];exact hT
    refine hQ _ _ ?_ ⟨hit',st.2.at fun o e=>?_⟩ ⟨fun b o hb e=>?_,rfl,rfl,rfl,Nat.le_refl _⟩
    · rw [List.getElem?_map,Array.getElem?_toList,Array.getElem?_eq_getElem hi];rfl
    · exact hs'.extBut S o hne e
    · exact hs'.extBut b o (fun q=>hb (by simp [q])) e
  done:=fun s Q E st hQ=>by
    have hT:=zcK (prog:=prog) st.2 hb hl hp (zcp t.place es.size) es.size
    rw [yco hr es.size (by omega),Array.getElem?_eq_none (Nat.le_refl _)] at hT
    exact wpAny_with_toks (Nat.le_refl s.toks) (ygx hh st.1 st.2 hT fun h' tk k htk=>hQ _ ⟨fun b o hb e=>k b o (fun q=>hb (by simp [q])) e,rfl,rfl,rfl,htk⟩)
  self:=fun i s Q E st h=>ycE st.1 h
theorem yeK {I S T:Addr} {es:Array (Int×Value)} {ep:Nat} {t:SetTable} {ps:List Nat} (hh:A.handled=none) (hne:S≠I) (hneT:T≠I) (hps:ps.Perm (List.range es.size)) :
    WalksS prog w A I [I,S,T] [I] GE es.size (fun i v=>(ps.map fun p=>(es.getD p (0,.none)).2)[i]?=some v) (fun i s=>IsSI s.heap I S (.ref T) i es.size ep∧yct s.heap S es ep t∧s.heap.IsTuple T (ps.map fun (p:Nat)=>rawInt p).toArray) where
  sub:=fun b hb=>by simp at hb;simp [hb]
  grefl:=fun _=>rfl
  gtrans:=fun _ _ _ h1 h2=>h2.trans h1
  frame:=fun i s h' tk st _ hk=>⟨st.1.at fun o e=>hk I (by simp) o e,st.2.1.at fun o e=>hk S (by simp) o e,st.2.2.at fun o e=>hk T (by simp) o e⟩
  item:=fun i s Q E hi st hQ=>by
    have hl:ps.length=es.size:=by rw [hps.length_eq,List.length_range]
    have hm:∀p∈ps,p<es.size:=fun p hp=>List.mem_range.mp (hps.mem_iff.mp hp)
    have hpi:ps[i]'(by omega)<es.size:=hm _ (List.getElem_mem _)
    refine zgV (pl:=ps[i]'(by omega)) (kx:=es[ps[i]'(by omega)]) (tk:=0) st.1 st.2.1 st.2.2 ?_ (Array.getElem?_eq_getElem hpi) fun h' hit' hs'=>?_
    · rw [List.getElem?_toArray,List.getElem?_map,List.getElem?_eq_getElem (show i<ps.length by omega)];rfl
    refine hQ _ _ ?_ ⟨hit',st.2.1.at fun o e=>hs'.extBut S o hne e,st.2.2.at fun o e=>hs'.extBut T o hneT e⟩ ⟨fun b o hb e=>hs'.extBut b o (fun q=>hb (by simp [q])) e,rfl,rfl,rfl,Nat.le_refl _⟩
    rw [List.getElem?_map,List.getElem?_eq_getElem (show i<ps.length by omega)]
    simp [Array.getD,hpi]
  done:=fun s Q E st hQ=>by
    have hl:ps.length=es.size:=by rw [hps.length_eq,List.length_range]
    exact wpAny_with_toks (Nat.le_refl s.toks) (zg3 hh st.1 st.2.1 st.2.2 (by rw [List.getElem?_toArray,List.getElem?_eq_none (by simp;omega)]) fun h' tk k htk=>hQ _ ⟨fun b o hb e=>k b o (fun q=>hb (by simp [q])) e,rfl,rfl,rfl,htk⟩)
  self:=fun i s Q E st h=>ycE st.1 h
theorem zeJ {es:Array (Int×Value)} {ps:List Nat} (hps:ps.Perm (List.range es.size)):(ps.map fun p=>(es.getD p (0,.none)).2).Perm (es.toList.map (·.2)):=by
  refine (hps.map _).trans ?_
  have e:(List.range es.size).map (fun p=>(es.getD p (0,Value.none)).2)=es.toList.map (·.2):=by
    apply List.ext_getElem
    · simp
    · intro i h1 h2
      simp at h1
      simp [Array.getD,h1]
  rw [e]
def yg5 (prog:Program) (w:World) (S:Addr) (es:Array (Int×Value)) (s0 s:Shared) (I:Addr):Prop :=
  ∃(vs:List Value) (fp:List Addr) (St:Nat→Shared→Prop),vs.Perm (es.toList.map (·.2))∧(∀A:Around,A.handled=none→WalksS prog w A I fp [I] GE es.size (fun i v=>vs[i]?=some v) St)∧St 0 s∧(∀b∈fp,b<s.heap.objs.size)∧I∈fp∧s.TypeIs (.ref I) "set_iterator"∧
    (∀b o,s0.heap.get? b=some o→s.heap.get? b=some o)∧s0.heap.objs.size≤I∧s.gens=s0.gens∧s.os=s0.os∧s0.toks≤s.toks∧∀b∈fp,b=S∨s0.heap.objs.size≤b
theorem yeN {xs:Array Nat} (h:xs.size≤1):Rise xs:=by
  unfold Rise
  rw [←Array.length_toList] at h
  match xs.toList,h with
  | [],_=>exact .nil
  | [x],_=>exact List.pairwise_singleton _ _
theorem zgn {S:Addr} {o:Obj} {es:Array (Int×Value)} {ep:Nat} {t:SetTable} {Q:Value→Shared→Prop} (ho:s.heap.get? S=some o) (hc:o.cls = .type "set") (hd:o.data = .set es ep t) (hf:t.fits es.size=true) (hb:es.size<scanBound) (hG:TabG (!zbs w) t)
    (hQ:∀I s',yg5 prog w S es s s' I→Q (.ref I) s'):wpAny (model prog w) A (pyIter (.ref S)) Q E s:=by
  have hT:s.TypeIs (.ref S) "set":=⟨o,ho,hc⟩
  have hSlt:=Heap.lt_size ho
  have hz:t.place.size=es.size:=by
    have:=hf
    unfold SetTable.fits at this
    simp only [Bool.and_eq_true,beq_iff_eq] at this
    exact this.1
  refine wpAny_pyIter_slot hT F.slot_set_iter (wpAny_call_entry F.slot_set_iter hT ycZ ?_ (F.args_set_iter_1 _))
  unfold Builtin.«frozenset.__iter__» Builtin.Frozenset.slot0 Builtin.Frozenset.sizeOf
  refine wpAny_bind (wpAny_of_eq (a:=S) rfl ?_)
  refine wpAny_bind (wpAny_bind (wpAny_setEntries_of ho hd hf (wpAny_pure ?_)))
  unfold setDrawn setsByText
  refine wpAny_bind (wpAny_bind (wpAny_setState_of ho hd hf ?_))
  dsimp only
  refine wpAny_bind (wpAny_bind (wpAny_askSetting (wpAny_pure (wpAny_pure ?_))))
  refine wpAny_ite_split (fun h=>?_) (fun h=>?_)
  · have h':(!zbs w&&(!t.plain&&decide (es.size>1)))=true:=h
    refine wpAny_bind (ydY _ _ _ _ List.length_range fun ps d' hps=>?_)
    have hlen:ps.length=es.size:=by rw [hps.length_eq,List.length_range]
    refine wpAny_bind (wpAny_newTuple ?_ (by rw [List.length_map,hlen];exact fits_of_scanBound hb))
    have o1:(s.heap.push { cls:=.type "tuple",data:=.seq (ps.map fun (p:Nat)=>rawInt p).toArray }).get? S=some o:=Heap.get?_push_of_some _ ho
    unfold setEpoch
    refine wpAny_bind (wpAny_bind (wpAny_setState_of o1 hd hf (wpAny_pure ?_)))
    unfold newFields
    refine wpAny_bind (wpAny_newObj_type ?_ (by size_fits))
    refine wpAny_pure ⟨_,rfl,"set_iterator",_,⟨_,Heap.get?_push_size _ rfl,rfl⟩,zav.lookup,hQ _ _ ?_⟩
    have hI:(s.heap.push { cls:=.type "tuple",data:=.seq (ps.map fun (p:Nat)=>rawInt p).toArray }).objs.size=s.heap.objs.size+1:=Heap.size_push _ _
    have e2:∀b o',s.heap.get? b=some o'→((s.heap.push { cls:=.type "tuple",data:=.seq (ps.map fun (p:Nat)=>rawInt p).toArray }).push { cls:=.type "set_iterator",data:=.fields #[.ref s.heap.objs.size,rawInt 0,.ref S,rawInt es.size,rawInt ep] }).get? b=some o':=fun b o' e=>Heap.get?_push_of_some _ (Heap.get?_push_of_some _ e)
    refine ⟨_,[(s.heap.push { cls:=.type "tuple",data:=.seq (ps.map fun (p:Nat)=>rawInt p).toArray }).objs.size,S,s.heap.objs.size],_,zeJ hps,fun A hh=>yeK (t:=t) (ep:=ep) hh ?_ ?_ hps,⟨⟨_,Heap.get?_push_size _ rfl,rfl,rfl⟩,⟨o,e2 S o ho,hd,hf⟩,⟨_,Heap.get?_push_of_some _ (Heap.get?_push_size _ rfl),rfl,0,rfl⟩⟩,?_,by simp,⟨_,Heap.get?_push_size _ rfl,rfl⟩,e2,?_,rfl,rfl,Nat.le_refl _,?_⟩
    · rw [hI];exact Nat.ne_of_lt (Nat.lt_succ_of_lt hSlt)
    · rw [hI];exact Nat.ne_of_lt (Nat.lt_succ_self _)
    · intro b hb
      simp only [List.mem_cons,List.not_mem_nil,or_false] at hb
      show b<((s.heap.push _).push _).objs.size
      rw [Heap.size_push,hI]
      rcases hb with rfl|rfl|rfl
      · rw [hI];exact Nat.lt_succ_self _
      · exact Nat.lt_succ_of_lt (Nat.lt_succ_of_lt hSlt)
      · exact Nat.lt_succ_of_lt (Nat.lt_succ_self _)
    · show s.heap.objs.size≤(s.heap.push _).objs.size
      rw [hI];exact Nat.le_succ _
    · intro b hb
      simp only [List.mem_cons,List.not_mem_nil,or_false] at hb
      rcases hb with rfl|rfl|rfl
      · right;rw [hI];exact Nat.le_succ _
      · exact .inl rfl
      · exact .inr (Nat.le_refl _)
  · have h':¬ (!zbs w&&(!t.plain&&decide (es.size>1)))=true:=h
    refine wpAny_bind (wpAny_pure ?_)
    unfold setEpoch
    refine wpAny_bind (wpAny_bind (wpAny_setState_of ho hd hf (wpAny_pure ?_)))
    unfold newFields
    refine wpAny_bind (wpAny_newObj_type ?_ (by size_fits))
    refine wpAny_pure ⟨_,rfl,"set_iterator",_,⟨_,Heap.get?_push_size _ rfl,rfl⟩,zav.lookup,hQ _ _ ?_⟩
    have e2:∀b o',s.heap.get? b=some o'→(s.heap.push { cls:=.type "set_iterator",data:=.fields #[rawInt 0,rawInt 0,.ref S,rawInt es.size,rawInt ep] }).get? b=some o':=fun b o' e=>Heap.get?_push_of_some _ e
    have hin:∀b∈[s.heap.objs.size,S],b<(s.heap.push { cls:=.type "set_iterator",data:=.fields #[rawInt 0,rawInt 0,.ref S,rawInt es.size,rawInt ep] }).objs.size:=by
      intro b hb
      simp only [List.mem_cons,List.not_mem_nil,or_false] at hb
      rw [Heap.size_push]
      rcases hb with rfl|rfl
      · exact Nat.lt_succ_self _
      · exact Nat.lt_succ_of_lt hSlt
    have hin2:∀b∈[s.heap.objs.size,S],b=S∨s.heap.objs.size≤b:=by
      intro b hb
      simp only [List.mem_cons,List.not_mem_nil,or_false] at hb
      rcases hb with rfl|rfl
      · exact .inr (Nat.le_refl _)
      · exact .inl rfl
    by_cases hbt:zbs w=true
    · exact ⟨_,[s.heap.objs.size,S],_,(zcW (w.params.setOrder S ep) es).map _,fun A hh=>zfC (t:=t) (ep:=ep) hh (Nat.ne_of_lt hSlt) hbt,⟨⟨_,Heap.get?_push_size _ rfl,rfl,rfl⟩,⟨o,e2 S o ho,hd,hf⟩⟩,hin,by simp,⟨_,Heap.get?_push_size _ rfl,rfl⟩,e2,Nat.le_refl _,rfl,rfl,Nat.le_refl _,hin2⟩
    · have hbf:zbs w=false:=by simpa using hbt
      have hled:t.led=true:=by rw [hG.led,hbf];rfl
      have hp:t.plain=true∨es.size≤1:=by
        rw [hbf] at h'
        cases hpl:t.plain
        · rw [hpl] at h'
          simp at h'
          exact .inr h'
        · exact .inl rfl
      have hr:Rise t.place:=by
        rcases hp with hp|hp
        · exact hG.rise hp
        · exact yeN (by omega)
      exact ⟨_,[s.heap.objs.size,S],_,List.Perm.refl _,fun A hh=>zeF (t:=t) (ep:=ep) hh (Nat.ne_of_lt hSlt) hbf hled hp hr hz,⟨⟨_,Heap.get?_push_size _ rfl,rfl,rfl⟩,⟨o,e2 S o ho,hd,hf⟩⟩,hin,by simp,⟨_,Heap.get?_push_size _ rfl,rfl⟩,e2,Nat.le_refl _,rfl,rfl,Nat.le_refl _,hin2⟩
end
end L2
end
section
-- text: ExtR
namespace L2
open PySem PyProof.Rows
theorem ydE:typeLookup (.type "set") "__len__"=pure (some (.builtin "set.__len__")):=by rw [typeLookup_type,builtinLookup_eq_fast];kernel_rfl
section
variable {prog:Program} {w:World} {A:Around} {E:Value→Shared→Prop} {s:Shared}
structure Left (s s':Shared):Prop where
  heap:∀b o,s.heap.get? b=some o→s'.heap.get? b=some o
  gens:s'.gens=s.gens
  os:s'.os=s.os
  toks:s.toks≤s'.toks
  size:s.heap.objs.size≤s'.heap.objs.size
theorem ygm {vs:List Value} {n:Nat} {acc:Array Value} (hn:vs.length=n) (h:ItemsOf (fun i v=>vs[i]?=some v) acc n):acc.toList=vs:=by
  refine List.ext_getElem? fun i=>?_
  by_cases c:i<n
  · have h1:acc[i]?=some (acc[i]'(by rw [h.1];exact c)):=Array.getElem?_eq_getElem _
    rw [Array.getElem?_toList,h1]
    exact (h.2 i _ h1).symm
  · rw [Array.getElem?_toList,Array.getElem?_eq_none (by rw [h.1];omega),List.getElem?_eq_none (by omega)]
theorem yeg {S:Addr} {o:Obj} {es:Array (Int×Value)} {ep:Nat} {t:SetTable} {Q:List Value→Shared→Prop} (hh:A.handled=none) (ho:s.heap.get? S=some o) (hc:o.cls = .type "set") (hd:o.data = .set es ep t) (hf:t.fits es.size=true) (hb:es.size<scanBound) (hG:TabG (!zbs w) t)
    (hQ:∀vs s',vs.Perm (es.toList.map (·.2))→Left s s'→Q vs s'):wpAny (model prog w) A (collect (.ref S)) Q E s:=by
  have hSlt:=Heap.lt_size ho
  unfold collect
  refine wpAny_bind (wpAny_runValue (codeAny_builtin F.entry_proto_collect ?_))
  rw [Around.under_plainId F.plain_proto_collect _]
  show wpAny _ A.in1 (newList [] >>= fun l=>again (.builtin "list.__iadd__" ⟨[l,.ref S],[]⟩)) _ _ s
  refine wpAny_bind (wpAny_newObj_type ?_)
  refine wpAny_pure ⟨plainId_quiet F.plain_list_iadd _,codeAny_builtin F.entry_list_iadd ?_⟩
  rw [Around.under_plainId F.plain_list_iadd _]
  have ho1:(s.heap.push { cls:=.type "list",data:=.seq ([]:List Value).toArray }).get? S=some o:=Heap.get?_push_of_some _ ho
  have hS1:(s.heap.push { cls:=.type "list",data:=.seq ([]:List Value).toArray }).get? s.heap.objs.size=some { cls:=.type "list",data:=.seq ([]:List Value).toArray }:=Heap.get?_push_size _ rfl
  have h1:Builtin.List.listSameRef (.ref s.heap.objs.size) (.ref S)=false:=by simp [Builtin.List.listSameRef];exact Nat.ne_of_gt hSlt
  show wpAny _ A.in1 (Builtin.List.listExtendWith (.ref s.heap.objs.size) (.ref S) (.ref s.heap.objs.size)) _ _ _
  unfold Builtin.List.listExtendWith
  refine wpAny_bind (wpAny_typeOf (T:="set") ⟨o,ho1,hc⟩ ?_)
  rw [if_neg (by rw [h1];decide)]
  refine wpAny_bind (zgn ho1 hc hd hf hb hG fun I s2 ⟨vs,fp,St,hp,hW,hst,hfp,hI,hT,hk,hge,hg,hos,htk,hfs⟩=>?_)
  have ho2:=hk S o ho1
  have hS2:=hk _ _ hS1
  refine wpAny_bind (wpAny_holding ?_)
  unfold Builtin.List.listLengthHint
  refine wpAny_bind (wpAny_specialOf (T:="set") ⟨o,ho2,hc⟩ ydE ?_)
  (generalize hid:("set.__len__":String)=id0;(fail_if_success (clear hid id0));wp_delta;rw [show splitId id0=some ("set","__len__") from by subst hid;decide +kernel];subst hid)
  refine wpAny_bind (wpAny_isInstance (T:="set") (b:=true) ⟨o,ho2,hc⟩ (by rw [isSubtype_type];kernel_rfl) ?_)
  refine wpAny_ite_split (fun h=>absurd h (by decide)) (fun _=>?_)
  refine wpAny_ite_split (fun _=>?_) (fun h=>(h (by decide +kernel)).elim)
  refine wpAny_bind (wpAny_typeOf (T:="set") ⟨o,ho2,hc⟩ ?_)
  refine wpAny_pure ?_
  refine wpAny_ite_split (fun _=>?_) (fun h=>(h (by decide +kernel)).elim)
  refine wpAny_bind (wpAny_rule ?_)
  refine wpAny_bind ?_
  show wpAny _ A.in1 (updateSeq s.heap.objs.size (·.push .none) >>= fun _=>updateSeq s.heap.objs.size (·.pop)) _ _ _
  refine wpAny_bind (wpAny_updateSeq hS2 rfl ?_)
  have hS3:=Heap.get?_update_self (Obj.mapSeq (·.push Value.none)) hS2 rfl
  refine wpAny_updateSeq hS3 rfl ?_
  have hS4:=Heap.get?_update_self (Obj.mapSeq (·.pop)) hS3 rfl
  have hlt:s.heap.objs.size<I:=by
    have:=hge
    rw [show (s.heap.push { cls:=.type "list",data:=.seq ([]:List Value).toArray }).objs.size=s.heap.objs.size+1 from Heap.size_push _ _] at this
    exact this
  have W:=hW A.in1 hh
  have hSf:s.heap.objs.size∉fp:=fun hm=>by
    rcases hfs _ hm with h|h
    · exact absurd h (Nat.ne_of_gt hSlt)
    · rw [show (s.heap.push { cls:=.type "list",data:=.seq ([]:List Value).toArray }).objs.size=s.heap.objs.size+1 from Heap.size_push _ _] at h
      exact absurd h (Nat.not_succ_le_self _)
  have oth:∀b o',b≠s.heap.objs.size→s2.heap.get? b=some o'→((s2.heap.update s.heap.objs.size (Obj.mapSeq (·.push Value.none))).update s.heap.objs.size (Obj.mapSeq (·.pop))).get? b=some o' :=
    fun b o' hb e=>(Heap.get?_update_other _ _ (Ne.symm hb)).trans ((Heap.get?_update_other _ _ (Ne.symm hb)).trans e)
  have hlen:vs.length=es.size:=by rw [hp.length_eq,List.length_map,Array.length_toList]
  refine wpAny_pure ⟨plainId_quiet F.plain_extend_loop _,codeAny_extend_loopS W (fits_of_scanBound hb) _ hSf _ es.size 0 _ _ _ rfl (Nat.zero_le _)
    (W.frame 0 s2 _ s2.toks hst (Nat.le_refl _) fun b hb o e=>oth b o (fun h=>hSf (h ▸ hb)) e) hS4 (ItemsOf.nil _) fun s' acc' c' hm hS' hacc=>?_⟩
  show wpAny _ A (load s.heap.objs.size >>= _) _ _ s'
  refine wpAny_bind (wpAny_load hS' ?_)
  refine wpAny_pure ?_
  rw [ygm hlen hacc]
  refine hQ vs s' hp ⟨fun b o' e=>?_,?_,?_,?_,Nat.le_of_lt (Heap.lt_size hS')⟩
  · have hb:=Heap.lt_size e
    refine hm.heap b o' ?_ (oth b o' (Nat.ne_of_lt hb) (hk b o' (Heap.get?_push_of_some _ e)))
    simp only [List.mem_cons,List.not_mem_nil,or_false,not_or]
    exact ⟨Nat.ne_of_lt hb,Nat.ne_of_lt (Nat.lt_trans hb hlt)⟩
  · exact hm.gens.trans hg
  · exact hm.os.trans hos
  · exact Nat.le_trans htk hm.toks
end
end L2
end
section
-- text: ExtS
namespace L2
open PySem PyProof.Rows
theorem zcc {α:Type} [BEq α] [LawfulBEq α]:∀ {σ τ:List α},σ.Nodup→(∀x∈σ,x∈τ)→σ.length≤τ.length
  | [],_,_,_=>Nat.zero_le _
  | x::σ,τ,h,hs=>by
    have hx:x∈τ:=hs x List.mem_cons_self
    have h2:=List.nodup_cons.mp h
    have:=zcc (σ:=σ) (τ:=τ.erase x) h2.2 fun y hy=>(List.mem_erase_of_ne (fun e=>h2.1 (by rw [←e];exact hy))).mpr (hs y (List.mem_cons_of_mem _ hy))
    rw [List.length_erase_of_mem hx] at this
    have hp:0 < τ.length:=List.length_pos_of_mem hx
    simp only [List.length_cons]
    omega
theorem yc2 {α:Type} [BEq α] [LawfulBEq α]:∀ {σ τ:List α},σ.Nodup→(∀x∈σ,x∈τ)→τ.length≤σ.length→σ.Perm τ
  | [],τ,_,_,hl=>by
    have:τ=[]:=List.length_eq_zero_iff.mp (by simpa using hl)
    rw [this]
  | x::σ,τ,h,hs,hl=>by
    have hx:x∈τ:=hs x List.mem_cons_self
    have h2:=List.nodup_cons.mp h
    have ih:=yc2 (σ:=σ) (τ:=τ.erase x) h2.2 (fun y hy=>(List.mem_erase_of_ne (fun e=>h2.1 (by rw [←e];exact hy))).mpr (hs y (List.mem_cons_of_mem _ hy))) (by rw [List.length_erase_of_mem hx];simp at hl;omega)
    exact (List.Perm.cons x ih).trans (List.perm_cons_erase hx).symm
theorem ybA (val:Nat→Int):∀i,(firstMet val i).Nodup
  | 0=>List.nodup_nil
  | i+1=>by
    rw [firstMet_succ]
    unfold step_dedup
    split
    · exact ybA val i
    · rename_i hn
      refine List.nodup_append.mpr ⟨ybA val i,by simp,fun a ha b hb=>?_⟩
      rw [List.mem_singleton] at hb
      intro e
      exact hn (List.any_eq_true.mpr ⟨a,ha,by rw [e,hb];exact beq_self_eq_true _⟩)
theorem zbT (ns:List Int) (k:Int):k∈firstMet (fun i=>ns.getD i 0) ns.length↔k∈ns:=by
  have h:=firstMet_any (fun i=>ns.getD i 0) ns.length k
  have e:(List.range ns.length).map (fun i=>ns.getD i 0)=ns:=by
    apply List.ext_getElem
    · simp
    · intro i h1 h2
      simp [List.getD,h2]
  rw [e] at h
  have c:∀l:List Int,l.any (·==k)=true↔k∈l:=fun l=>by
    rw [List.any_eq_true]
    exact ⟨fun ⟨x,hx,q⟩=>by rw [←eq_of_beq q];exact hx,fun hk=>⟨k,hk,beq_self_eq_true _⟩⟩
  rw [←c,←c,h]
section
variable {prog:Program} {w:World} {A:Around} {E:Value→Shared→Prop} {s:Shared}
theorem yc1:∀ {vs:List Value},(∀v∈vs,∃k t,v = .int k t)→∃ns,IntsAre vs ns∧∀k,k∈ns↔∃v∈vs,∃t,v = .int k t
  | [],_=>⟨[],.nil,fun k=>⟨fun h=>(nomatch h),fun ⟨v,h,_⟩=>(nomatch h)⟩⟩
  | v::vs,h=>by
    obtain ⟨ns,hn,hm⟩:=yc1 fun v' hv=>h v' (List.mem_cons_of_mem _ hv)
    obtain ⟨k,t,rfl⟩:=h v List.mem_cons_self
    refine ⟨k::ns,.cons k t hn,fun k'=>⟨fun hk=>?_,fun ⟨v',hv,t',e⟩=>?_⟩⟩
    · rcases List.mem_cons.mp hk with rfl|hk
      · exact ⟨_,List.mem_cons_self,t,rfl⟩
      · obtain ⟨v',hv,t',e⟩:=(hm k').mp hk
        exact ⟨v',List.mem_cons_of_mem _ hv,t',e⟩
    · rcases List.mem_cons.mp hv with rfl|hv
      · cases e;exact List.mem_cons_self
      · exact List.mem_cons_of_mem _ ((hm k').mpr ⟨v',hv,t',e⟩)
theorem zeK {S:Addr} {Sm:Int→Bool} {n:Nat} {Q:Value→Shared→Prop} (hh:A.handled=none) (hS:SetG w prog s.heap S Sm n) (h64:n<64)
    (hQ:∀(h':Heap) (d':Drawn) (tk:Nat) (L:Addr) (ns':List Int) (out:Array Value) (e:Nat),IntsAre out.toList ns'→ns'.length=n→(∀k,k∈ns'↔Sm k=true)→ns'.Pairwise (·≤·)→(∀b o,s.heap.get? b=some o→h'.get? b=some o)→s.heap.objs.size≤L→
      h'.get? L=some (seqObj "list" out e)→Q (.ref L) { heap:=h',gens:=s.gens,drawn:=d',toks:=tk,os:=s.os }) :
    wpAny (model prog w) A (call (.builtin "sorted") [.ref S]) Q E s:=by
  obtain ⟨o,es,ep,t,ho,hex,hd,hel,hmem,hb,hf,hn,hG⟩:=hS
  refine Calls.call_function_entry kind_sorted plain_sorted entry_sorted (args_sorted1 _) ?_
  unfold Builtin.«sorted»
  refine wpAny_bind (m:=checkCount "sorted" 1 1 _) (wpAny_pure ?_)
  refine wpAny_bind (yeg (by simp [hh]) ho hex.1 hd hf hb hG fun vs s2 hp hL=>?_)
  have hall:∀v∈vs,∃k t,v = .int k t:=fun v hv=>by
    obtain ⟨e,he,rfl⟩:=List.mem_map.mp (hp.mem_iff.mp hv)
    obtain ⟨⟨k,hk,_⟩,_⟩:=hel e he
    obtain ⟨t,ht⟩:=Value.isInt_shape hk
    exact ⟨k,t,ht⟩
  obtain ⟨ns,hI,hm⟩:=yc1 hall
  have hl:vs.length=n:=by rw [hp.length_eq,List.length_map,Array.length_toList,hn]
  refine wpAny_bind (wpAny_newList ?_)
  have hoL:(s2.heap.push (seqObj "list" vs.toArray 0)).get? s2.heap.objs.size=some (seqObj "list" vs.toArray 0):=Heap.get?_push_size _ rfl
  refine wpAny_bind (wpAny_holding (wpAny_call_entry slot_list_sort ⟨_,hoL,rfl⟩ entry_list_sort (list_sort_tree hoL hI (by omega) fun out ns' a1 a2 a3=>⟨_,rfl,?_⟩) (args_list_sort _)))
  refine wpAny_pure ⟨_,rfl,?_⟩
  obtain ⟨e,he⟩:=sortedHeap_at (out:=out) hoL
  have hle:=hL.size
  have hk:=hL.heap
  have hg:=hL.gens
  have hos:=hL.os
  obtain ⟨h2,g2,d2,t2,o2⟩:=s2
  dsimp only at hg hos
  subst hg;subst hos
  refine hQ _ _ _ _ ns' out e a1 ?_ ?_ a3 (fun b ob eb=>?_) hle he
  · rw [a2.length_eq,←IntsAre.length hI];exact hl
  · intro k
    rw [a2.mem_iff,hm,hmem]
    constructor
    · rintro ⟨v,hv,t',rfl⟩
      obtain ⟨e',he',q⟩:=List.mem_map.mp (hp.mem_iff.mp hv)
      exact ⟨e',he',by rw [q];exact intKind_is _ _ _ _⟩
    · rintro ⟨e',he',q⟩
      obtain ⟨t',ht⟩:=Value.isInt_shape q
      exact ⟨e'.2,hp.mem_iff.mpr (List.mem_map_of_mem he'),t',ht⟩
  · have hlt:=Heap.lt_size (hk b ob eb)
    rw [sortedHeap_old (Nat.ne_of_lt hlt) (by rw [show (h2.push (seqObj "list" vs.toArray 0)).objs.size=h2.objs.size+1 from Heap.size_push _ _];exact Nat.lt_succ_of_lt hlt)]
    exact Heap.get?_push_of_some _ (hk b ob eb)
end
end L2
end
section
-- text: ExtT
namespace L2
open PySem PyProof.Rows
theorem zeg:bootBuiltins "set"=some (.type "set"):=by decide +kernel
theorem yby:bootBuiltins "sorted"=some (.builtin "sorted"):=by decide +kernel
section
variable {X:Cx}
theorem Inv.redraw {pins:List (Addr×Obj)} {σ:St} {H:Hp} {s s':Shared} (I:Inv X pins σ H s) (h1:s'.heap=s.heap) (h2:s'.gens=s.gens) (h3:s'.os=s.os):Inv X pins σ H s' :=
  ⟨I.ok,by rw [h3];exact I.os,by rw [h2];exact I.bare,by rw [h1];exact I.base,by rw [h1];exact I.loc,by rw [h1];exact I.cell,I.free,I.freeC,by rw [h1];exact I.pin,by rw [h1];exact I.hok,I.len⟩
theorem Inv.more {pins:List (Addr×Obj)} {σ:St} {H:Hp} {s:Shared} {h':Heap} {tk:Nat} (I:Inv X pins σ H s) (k:∀b o,s.heap.get? b=some o→h'.get? b=some o):Inv X pins σ H { s with heap:=h',toks:=tk } :=
  I.turnedL (fp:=[]) (fun b hb=>nomatch hb) fun b o _ e=>k b o e
def ygd (K:PySem.W.Frag) (te:TE):TE:=fun σ H Q=>te σ H fun x H1=>∃(a:Addr) (ns:List Int),x = .ref a∧SqL K H1 a (ns.map V.int)∧ns.length<4000∧(∀ks:List Int,ks.Nodup→(∀k∈ks,k∈ns)→ks.length<64)∧
  ∀(l:Addr) (ns':List Int),H1 l=none→ns'.Pairwise (· < ·)→(∀k,k∈ns'↔k∈ns)→Q (.ref l) (upd H1 l (.lst (ns'.map V.int)))
theorem zdd {e:Expr} {te:TE} {p1 p2 pos pos2:Pos} (hc:X.calm=true) (hg1:Gl X "sorted") (hm1:X.mg "sorted"=none) (hg2:Gl X "set") (hm2:X.mg "set"=none) (he:PE X e te)
    (hs:starEach [e] X.env=[(false,eval e X.env)]:=by rfl) (hs2:starEach [.Call (.Name "set" p2) [e] [] pos2] X.env=[(false,eval (.Call (.Name "set" p2) [e] [] pos2) X.env)]:=by rfl) :
    PE X (.Call (.Name "sorted" p1) [.Call (.Name "set" p2) [e] [] pos2] [] pos) (ygd X.K te):=by
  intro pins s σ H Q I h
  refine wpAny_Call_Name_kw (ybO I hg1 hm1 yby ?_ (by decide) (by decide))
  refine PyProof.Rows.callWith_builtin1 ?_ hs2 rfl
  rw [hs2]
  show wpAny _ _ (spliced ((false,eval (.Call (.Name "set" p2) [e] [] pos2) X.env)::[])) _ _ s
  refine Calls.spliced_cons ?_
  refine wpAny_Call_Name_kw (ybO I hg2 hm2 zeg ?_ (by decide) (by decide))
  refine PyProof.Rows.callWith_type1 ?_ hs rfl
  rw [hs]
  show wpAny _ _ (spliced ((false,eval e X.env)::[])) _ _ s
  refine Calls.spliced_cons (thn (he pins s σ H _ I h) fun u s1 ⟨x,H1,I1,r1,a,ns,ex,ha,hl,h64,q⟩=>?_)
  subst ex
  cases r1
  refine Calls.spliced_nil ?_
  obtain ⟨its,r2,p2,z2⟩:=I1.list ha
  have hlen:=r2.length
  rw [List.length_map] at hlen
  have hh:=I1.ok.hd hc
  refine zeH hh p2.isList (by simpa using yce r2) (by rw [List.size_toArray];unfold scanBound;omega) fun h2 tk2 hS hk=>?_
  refine Calls.spliced_nil ?_
  have I2:Inv X pins σ H1 { s1 with heap:=h2,toks:=tk2 }:=I1.more hk
  have hsz:its.toArray.size=ns.length:=by rw [List.size_toArray,hlen]
  rw [hsz] at hS
  have hfm:=ybA (fun i=>ns.getD i 0) ns.length
  refine zeK (s:={ s1 with heap:=h2,toks:=tk2 }) hh hS (h64 _ hfm fun k hk=>(zbT ns k).mp hk) fun h3 d3 tk3 L ns' out e3 b1 b2 b3 b4 b5 b6 b7=>?_
  have hmem:∀k,k∈ns'↔k∈firstMet (fun i=>ns.getD i 0) ns.length:=fun k=>by
    rw [b3]
    constructor
    · intro h
      obtain ⟨y,hy,q⟩:=List.any_eq_true.mp h
      rw [←eq_of_beq q];exact hy
    · intro h;exact List.any_eq_true.mpr ⟨k,h,beq_self_eq_true _⟩
  have hnd:ns'.Nodup:=(yc2 hfm (fun k hk=>(hmem k).mpr hk) (by rw [b2];exact Nat.le_refl _)).nodup_iff.mp hfm
  have hlt:ns'.Pairwise (· < ·):=by
    refine List.Pairwise.imp₂ (fun a b h1 h2=>?_) b4 hnd
    omega
  have r3:Vals (ns'.map V.int) out.toList:=ybY b1
  have I3:Inv X pins σ (upd H1 L (.lst (ns'.map V.int))) { s1 with heap:=h3,toks:=tk3 }:=I2.laid (a:=L) (t':=tk3) (o:=.lst (ns'.map V.int)) b5 b6 ⟨?_,out.toList,e3,r3,?_⟩
  · refine ⟨.ref L,_,I3.redraw rfl rfl rfl,rfl,q L ns' (I2.hok.fresh b6) hlt fun k=>(hmem k).trans (zbT ns k)⟩
  · rw [List.length_map,b2]
    have:=h64 _ hfm fun k hk=>(zbT ns k).mp hk
    have:=sizeLine_eq
    omega
  · rw [b7]
end
end L2
end
section
-- text: ExtU
namespace L2
open PySem PySem.Spec PyProof.Rows
section
variable {X:Cx}
def zhp (K:PySem.W.Frag):List V→Hp→VK→Prop:=fun vs H Q=>∃(a:Addr) (ns:List Int),vs=[.ref a]∧SqL K H a (ns.map V.int)∧0<ns.length∧∀M,M∈ns→(∀a∈ns,a≤M)→Q (.int M) H
theorem zdL (hc:X.calm=true):zbk X (.builtin "max") (zhp X.K):=by
  intro pins s σ H xs us Q I r h
  obtain ⟨a,ns,rfl,ha,hl,q⟩:=h
  obtain ⟨u,rfl,rx⟩:=zcg r
  cases rx
  obtain ⟨its,r1,p1,z1⟩:=I.list ha
  have hi:IntsAre its ns:=yce r1
  have hlist:=p1.isList
  obtain ⟨ys,e⟩:=hi.allInts.items
  have hns:ns=ys.toList.map (·.1):=by rw [←hi.numsOf,←nums_intItems,←e]
  have hsz:0<ys.size:=by
    have h3:=hl;rw [hns,List.length_map,Array.length_toList] at h3;exact h3
  rw [e] at hlist
  refine max_intList (I.ok.hd hc) hlist hsz fun v h' tk hv hk=>?_
  obtain ⟨t,rfl⟩:=intItems_at hv
  obtain ⟨h1,h2⟩:=argBest_gt (numAt ys) (ys.size-1)
  refine ⟨.int _,H,I.more (fun b o eb=>hk b o eb),zgc _ _,q _ ?_ fun b hb=>?_⟩
  · rw [hns,numAt_eq];exact getD_mem (by rw [List.length_map,Array.length_toList];omega)
  · rw [hns] at hb
    obtain ⟨j,hj,rfl⟩:=mem_getD hb
    rw [List.length_map,Array.length_toList] at hj
    rw [←numAt_eq];exact h2 j (by omega)
end
end L2
end
section
-- text: ExtV
namespace HT
open PySem PyProof.Rows
section
variable {prog:Program} {w:World} {A:Around} {E:Value→Shared→Prop} {s:Shared}
theorem zct {sl:Addr} {t:Tok} {n:Nat} {Q:Int×Int×Nat→Shared→Prop} (hs:s.heap.IsSliceOf sl .none .none (.int (-1) t))
    (h:Q ((n:Int)-1,-1,n) s):wpAny (model prog w) A (Builtin.Slice.sliceApplied (.ref sl) (pure (n:Int))) Q E s:=by
  obtain ⟨os,hos,hcs,hds⟩:=id hs
  unfold Builtin.Slice.sliceApplied Builtin.Slice.sliceFields
  refine wpAny_bind (wpAny_bind (wpAny_field hos hds (x:=.none) rfl (wpAny_bind (wpAny_field hos hds (x:=.none) rfl (wpAny_bind (wpAny_field hos hds (x:=.int (-1) t) rfl (wpAny_pure ?_)))))))
  refine wpAny_bind (ycm (.int (-1) t) ?_)
  show wpAny _ _ (if ((-1:Int)==0)=true then _ else _) _ _ s
  rw [if_neg (by decide)]
  refine wpAny_bind (slicePart_none (wpAny_bind (slicePart_none (wpAny_bind (wpAny_pure ?_)))))
  show wpAny _ _ (pure ((n:Int)-1,(-1:Int),Builtin.Slice.slicePlaces ((n:Int)-1) (-1) (-1))) _ _ s
  have e:Builtin.Slice.slicePlaces ((n:Int)-1) (-1) (-1)=n:=by
    unfold Builtin.Slice.slicePlaces
    rw [if_neg (by decide)]
    by_cases c:n=0
    · subst c;rfl
    · rw [if_pos (by omega),show (-(-1:Int))=1 from rfl,Int.ediv_one]
      omega
  rw [e]
  exact wpAny_pure h
theorem zer {α β:Type} {f g:α→Option β}:∀(l:List α),(∀m∈l,f m=g m)→l.filterMap f=l.filterMap g
  | [],_=>rfl
  | x::l,h=>by
    rw [List.filterMap_cons,List.filterMap_cons,h x List.mem_cons_self,zer l fun m hm=>h m (List.mem_cons_of_mem _ hm)]
theorem zfV (xs:Array Value):((List.range xs.size).filterMap fun (m:Nat)=>xs[(((xs.size:Int)-1)+(m:Int)*(-1)).toNat]?).toArray=xs.toList.reverse.toArray:=by
  congr 1
  have h:∀m∈List.range xs.size,xs[(((xs.size:Int)-1)+(m:Int)*(-1)).toNat]?=xs.toList.reverse[m]?:=fun m hm=>by
    have hm:=List.mem_range.mp hm
    rw [List.getElem?_reverse (by simpa using hm),Array.length_toList,Array.getElem?_toList]
    congr 1
    omega
  rw [zer _ h]
  have:=PySem.List.filterMap_getElem?_range_length xs.toList.reverse
  rwa [List.length_reverse,Array.length_toList] at this
theorem getItem_tuple_rev {t sl:Addr} {items:Array Value} {tk:Tok} {Q:Value→Shared→Prop} (ht:IsTup s.heap t items) (hs:s.heap.IsSliceOf sl .none .none (.int (-1) tk))
    (h:Q (.ref s.heap.objs.size) { s with heap:=s.heap.push { cls:=.type "tuple",data:=.seq items.toList.reverse.toArray } })
    (hsz:items.size≤sizeLine):wpAny (model prog w) A (getItem (.ref t) (.ref sl)) Q E s:=by
  have htake:sizeOk (.seq items.toList.reverse.toArray):=by
    show items.toList.reverse.toArray.size≤sizeLine
    rw [List.size_toArray,List.length_reverse,Array.length_toList];exact hsz
  obtain ⟨os,hos,hcs,hds⟩:=id hs
  have hTs:s.TypeIs (.ref sl) "slice":=⟨os,hos,hcs⟩
  unfold getItem
  try with_reducible refine wpAny_holding ?_
  first|refine wpAny_bind (wpAny_pure ?_)|skip
  refine wpAny_bind (wpAny_sequenceKey ht.typeIs (by decide) ?_)
  refine wpAny_bind (wpAny_callSpecial?_slot (name:=Str.ofString "__getitem__") ht.typeIs PyProof.Rows.slot_tuple_getitem
    (wpAny_call_entry PyProof.Rows.slot_tuple_getitem ht.typeIs entry_tuple_getitem ?_ (args_tuple_getitem _ _)))
  show wpAny _ _ (Builtin.Tuple.tupleItemsOf (.ref t) >>= _) _ _ s
  refine wpAny_bind (tupleItemsOf_ ht ?_)
  refine wpAny_bind (wpAny_typeOf hTs ?_)
  rw [if_pos (by decide)]
  refine wpAny_bind (zct hs ?_)
  show wpAny _ _ (if ((((items.size:Int)-1)==0&&(-1:Int)==1&&items.size==items.size)=true) then _ else _) _ _ s
  rw [if_neg (by simp),zfV]
  first
    | exact wpAny_bind (m:=Builtin.Tuple.tupleExact _) (wpAny_newObj_type (wpAny_pure ⟨_,rfl,wpAny_pure h⟩) htake)
    | exact wpAny_bind (m:=Builtin.Tuple.tupleExact _) (wpAny_newObj_type (wpAny_bind (wpAny_pure (wpAny_pure ⟨_,rfl,wpAny_pure h⟩))) htake)
    | exact wpAny_bind (wpAny_bind (m:=Builtin.Tuple.tupleExact _) (wpAny_newObj_type (wpAny_pure (wpAny_pure ⟨_,rfl,wpAny_pure h⟩)) htake))
    | exact wpAny_bind (wpAny_bind (m:=Builtin.Tuple.tupleExact _) (wpAny_newObj_type (wpAny_pure ⟨_,rfl,wpAny_pure h⟩) htake))
end
end HT
namespace L2
open PySem PyProof.Rows
section
variable {X:Cx}
def yht (K:PySem.W.Frag) (te:TE):TE:=fun σ H Q=>te σ H fun x H1=>∃a xs,x = .ref a∧SqT K H1 a xs∧∀p,H1 p=none→Q (.ref p) (upd H1 p (.tup xs.reverse))
theorem ygD {e:Expr} {te:TE} {p0 p1 p2 pos:Pos} {j} (he:PE X e te):PE X (.Subscript e (.Slice none none (some (.UnaryOp .USub (.Constant (.int 1) j p0) p1)) p2) pos) (yht X.K te):=by
  intro pins s σ H Q I h
  refine Subscript_ (thn (he pins s σ H _ I h) fun v s1 ⟨x,H1,I1,r1,q1⟩=>?_)
  obtain ⟨a,xs,rfl,hx,q⟩:=q1
  cases r1
  refine wpAny_Slice ?_
  rw [evalPart_none]
  refine wpAny_pure ?_
  refine wpAny_pure ?_
  rw [evalPart_some]
  refine thn ((zeN yc7 (yac (X:=X))) pins s1 σ H1 (fun v H'=>v = .int (-1)∧H'=H1) I1 ⟨1,rfl,rfl,rfl⟩) fun st s2 ⟨v,H2,I2,r2,e1,e2⟩=>?_
  subst e1 e2
  obtain ⟨t,rfl⟩:=r2
  have I4:Inv X pins σ H2 { s2 with heap:=s2.heap.push { cls:=.type "slice",data:=.fields #[.none,.none,.int (-1) t] } }:=I2.kept (t':=s2.toks) fun b ob q=>Heap.get?_push_of_some _ q
  obtain ⟨its,r,ht,hz⟩:=I4.tuple hx
  have hlen:=r.length
  show wpAny (model X.prog X.w) X.A (subscriptTail e _ (.ref a) (.ref s2.heap.objs.size)) (EP X pins σ Q) X.xe { s2 with heap:=s2.heap.push { cls:=.type "slice",data:=.fields #[.none,.none,.int (-1) t] } }
  refine tail_any (ops:=[.ref a,.ref s2.heap.objs.size]) ht.typeIs PyProof.Rows.slot_tuple_getitem.lookup ?_ (by with_unfolding_all rfl)
  refine HT.getItem_tuple_rev ht (Heap.IsSliceOf.new ..) ?_ (by rw [List.size_toArray];omega)
  refine ⟨.ref _,_,I4.laid (t':=s2.toks) (o:=.tup xs.reverse) (fun b ob q=>Heap.get?_push_of_some _ q) (Nat.le_refl _) ?_,rfl,q _ (I4.hok.fresh (Nat.le_refl _))⟩
  exact ⟨by rw [List.length_reverse];exact hz,its.reverse,r.reverse,IsTup.new _ _⟩
end
end L2
end
section
-- text: ExtW
namespace HT
open PySem PyProof.Rows
section
variable {prog:Program} {w:World} {A:Around} {E:Value→Shared→Prop} {s:Shared}
theorem getItem_tuple_whole {t sl:Addr} {items:Array Value} {vl vu:Value} {lo hi:Option Int} {Q:Value→Shared→Prop} (ht:IsTup s.heap t items) (hs:s.heap.IsSliceOf sl vl vu .none) (pl:IsPart vl lo) (pu:IsPart vu hi)
    (hw:sIx items.size 0 lo=0∧sIx items.size items.size hi=items.size) (h:Q (.ref t) s):wpAny (model prog w) A (getItem (.ref t) (.ref sl)) Q E s:=by
  obtain ⟨os,hos,hcs,hds⟩:=id hs
  have hTs:s.TypeIs (.ref sl) "slice":=⟨os,hos,hcs⟩
  unfold getItem
  try with_reducible refine wpAny_holding ?_
  first|refine wpAny_bind (wpAny_pure ?_)|skip
  refine wpAny_bind (wpAny_sequenceKey ht.typeIs (by decide) ?_)
  refine wpAny_bind (wpAny_callSpecial?_slot (name:=Str.ofString "__getitem__") ht.typeIs PyProof.Rows.slot_tuple_getitem
    (wpAny_call_entry PyProof.Rows.slot_tuple_getitem ht.typeIs entry_tuple_getitem ?_ (args_tuple_getitem _ _)))
  show wpAny _ _ (Builtin.Tuple.tupleItemsOf (.ref t) >>= _) _ _ s
  refine wpAny_bind (tupleItemsOf_ ht ?_)
  refine wpAny_bind (wpAny_typeOf hTs ?_)
  rw [if_pos (by decide)]
  refine wpAny_bind (zbP hs pl pu ?_)
  have hyes:(((sIx items.size 0 lo:Nat):Int)==0&&(1:Int)==1&&(sIx items.size items.size hi-sIx items.size 0 lo)==items.size)=true:=by
    rw [hw.1,hw.2,Nat.sub_zero];simp
  show wpAny _ _ (if (((sIx items.size 0 lo:Nat):Int)==0&&(1:Int)==1&&(sIx items.size items.size hi-sIx items.size 0 lo)==items.size)=true then _ else _) _ _ s
  rw [if_pos hyes]
  unfold Builtin.Tuple.tupleIsExact
  refine wpAny_bind (wpAny_bind (wpAny_typeOf ht.typeIs (wpAny_pure ?_)))
  rw [if_pos (by decide)]
  first
    | exact wpAny_bind (wpAny_rule (wpAny_pure ⟨_,rfl,wpAny_pure h⟩))
    | exact wpAny_bind (wpAny_bind (wpAny_rule (wpAny_pure (wpAny_pure ⟨_,rfl,wpAny_pure h⟩))))
    | exact wpAny_bind (wpAny_rule (wpAny_bind (wpAny_pure (wpAny_pure ⟨_,rfl,wpAny_pure h⟩))))
    | (refine wpAny_bind (wpAny_rule ?_);trace_state;exact wpAny_pure h)
end
end HT
namespace L2
open PySem PyProof.Rows
section
variable {X:Cx}
def rSlA (K:PySem.W.Frag):V→Option Int→Option Int→Hp→VK→Prop:=fun x lo hi H Q=>∃a xs,x = .ref a∧SqT K H a xs∧(cutV xs lo hi=xs→Q (.ref a) H)∧∀p,H p=none→Q (.ref p) (upd H p (.tup (cutV xs lo hi)))
theorem ydf:SlR X (rSlA X.K):=by
  intro pins s σ H x v vl vu lo hi sl Q I rx hs pl pu h
  obtain ⟨a,xs,rfl,hx,q1,q⟩:=h
  by_cases hw:HT.sIx xs.length 0 lo=0∧HT.sIx xs.length xs.length hi=xs.length
  · cases rx
    obtain ⟨its,r,ht,hz⟩:=I.tuple hx
    have hlen:its.toArray.size=xs.length:=by rw [List.size_toArray];exact r.length.symm
    refine ⟨"tuple",_,PyProof.Rows.slot_tuple_getitem.lookup,ht.typeIs,?_⟩
    refine HT.getItem_tuple_whole ht hs pl pu (by rw [hlen];exact hw) ?_
    exact ⟨.ref a,H,I,rfl,q1 (by unfold cutV;rw [hw.1,hw.2,Nat.sub_zero,List.drop_zero,List.take_length])⟩
  · exact zgv pins s σ H _ v vl vu lo hi sl Q I rx hs pl pu ⟨a,xs,rfl,hx,hw,q⟩
end
end L2
end
section
-- text: ExtX
namespace L2
open PySem PySem.Spec PyProof.Rows
section
variable {X:Cx}
end
end L2
end
section
-- text: ExtY
namespace L2
open PySem PySem.Spec PyProof.Rows
section
variable {X:Cx}
theorem zdW:∀n:Nat,n<100→(n:Int).natAbs.log2<1920:=fun n h=>by
  rw [Int.natAbs_natCast]
  rcases Nat.eq_zero_or_pos n with e|e
  · rw [e];decide
  · exact Nat.lt_of_lt_of_le ((Nat.log2_lt (k:=7) (by omega)).mpr (by omega)) (by decide)
end
end L2
namespace L2
open PySem PySem.Spec PyProof.Rows
section
variable {X:Cx} {K:PySem.W.Frag}
end
end L2
end
section
-- text: ExtZ
namespace L2
open PySem PySem.Spec PyProof.Rows
def RdN (K:PySem.W.Frag) (H:Hp):Nat→V→PyData→Prop
  | 0,_,_=>False
  | n+1,v,d=>(∃i:Int,v = .int i∧d = .int i)∨∃(a:Addr) (xs:List V) (ds:List PyData),v = .ref a∧d = .tuple ds∧SqT K H a xs∧xs.length=ds.length∧∀(i:Nat) x e,xs[i]?=some x→ds[i]?=some e→RdN K H n x e
theorem ycO {h:Heap}:∀ {us:List Value} {ds:List PyData},us.length=ds.length→(∀(i:Nat) u e,us[i]?=some u→ds[i]?=some e→Reads h u e [])→ReadsAll h us ds []
  | [],[],_,_=>.nil
  | [],_::_,hl,_=>by cases hl
  | _::_,[],hl,_=>by cases hl
  | u::us,d::ds,hl,hr=>by
    have h1:=hr 0 u d rfl rfl
    have h2:=ycO (us:=us) (ds:=ds) (by simpa using hl) fun i u' e hu he=>hr (i+1) u' e hu he
    exact .cons (as:=[]) (bs:=[]) h1 h2
section
variable {X:Cx}
theorem zes {pins:List (Addr×Obj)} {σ:St} {H:Hp} {s:Shared} (I:Inv X pins σ H s):∀(n:Nat) (x:V) (d:PyData) (u:Value),RdN X.K H n x d→RelV x u→Reads s.heap u d []
  | 0,_,_,_,h,_=>h.elim
  | n+1,x,d,u,h,r=>by
    rcases h with ⟨i,rfl,rfl⟩ | ⟨a,xs,ds,rfl,rfl,ha,hl,hx⟩
    · obtain ⟨t,rfl⟩:=r
      exact .int i t
    · cases r
      obtain ⟨us,r1,⟨o,ho,hc,k,hd⟩,z1⟩:=I.tuple ha
      have l1:=r1.length
      refine .tuple ho hc hd (ycO (by simp;omega) fun i u e hu he=>?_)
      have hi:=(List.getElem?_eq_some_iff.mp hu).1
      obtain ⟨x1,e1,q1⟩:=zgj r1 (i:=i) (by simpa using hi)
      have eu:us.toArray[i]'(by simpa using hi)=u:=by
        have:=(List.getElem?_eq_some_iff.mp hu).2
        simpa using this
      rw [eu] at q1
      exact zes I n x1 e u (hx i x1 e e1 he) q1
end
structure DOk (d:PyData) (w:Nat):Prop where
  sh:d.showable=true
  nd:d.hasDict=false
  dp:d.depth≤40
  sl:d.leavesShort 8=true
  we:d.weight≤w
theorem zgH {ns:List Nat} (h:∀n∈ns,n<100):PyData.showableAll (ns.map fun n:Nat=>PyData.int (n:Int))=true∧PyData.hasDictAll (ns.map fun n:Nat=>PyData.int (n:Int))=false∧PyData.depthAll (ns.map fun n:Nat=>PyData.int (n:Int))=0∧PyData.leavesShortAll 8 (ns.map fun n:Nat=>PyData.int (n:Int))=true∧PyData.weightAll (ns.map fun n:Nat=>PyData.int (n:Int))≤11*ns.length:=by
  induction ns with
  | nil=>exact ⟨rfl,rfl,rfl,rfl,Nat.le_refl _⟩
  | cons n ns ih =>
    obtain ⟨i1,i2,i3,i4,i5⟩:=ih fun y hy=>h y (List.mem_cons_of_mem _ hy)
    have hn:=h n List.mem_cons_self
    obtain ⟨k1,k2⟩:=yec n hn
    rw [List.map_cons]
    refine ⟨?_,?_,?_,?_,?_⟩
    · show (decide ((n:Int).natAbs.log2<1920)&&PyData.showableAll _)=true
      rw [i1,decide_eq_true (zdW n hn)];rfl
    · show (false||PyData.hasDictAll _)=false
      rw [i2];rfl
    · show max 0 (PyData.depthAll _)=0
      rw [i3];rfl
    · show (PyData.leavesShort 8 (.int (n:Int))&&PyData.leavesShortAll 8 _)=true
      rw [k1,i4];rfl
    · show PyData.weight (.int (n:Int))+1+PyData.weightAll _≤11*(ns.length+1)
      omega
theorem zgA {K:PySem.W.Frag} {H:Hp} {a:Addr} {ns:List Nat} {k:Nat} (h:SqT K H a (ns.map fun n:Nat=>V.int (n:Int))):RdN K H (k+2) (.ref a) (.tuple (ns.map fun n:Nat=>PyData.int (n:Int))):=by
  refine .inr ⟨a,_,_,rfl,rfl,h,by simp,fun i x e hx he=>.inl ?_⟩
  rw [List.getElem?_map] at hx he
  cases q:ns[i]? with
  | none=>rw [q] at hx;cases hx
  | some n=>rw [q] at hx he;cases hx;cases he;exact ⟨_,rfl,rfl⟩
section
variable {X:Cx}
end
end L2
end
section
-- text: ExtRa
namespace L2
open PySem PySem.Spec PyProof.Rows
section
variable {prog:Program} {w:World} {A:Around} {E:Value→Shared→Prop} {s:Shared}
end
section
variable {X:Cx}
end
end L2
end
section
-- text: ExtRb
namespace L2
open PySem PySem.Spec PyProof.Rows
section
variable {X:Cx}
end
end L2
end
section
-- text: ExtRc
namespace L2
open PySem PySem.Spec PyProof.Rows
section
variable {X:Cx} {pins:List (Addr×Obj)} {σ:St} {H:Hp} {s:Shared} {a:Addr}
end
section
variable {X:Cx} {tg:Expr}
end
end L2
end
section
-- text: MathA
set_option autoImplicit false
namespace Dg
def dg (p i x:Nat):Nat:=x/p^i%p
theorem zbw (p x:Nat):dg p 0 x=x%p:=by simp [dg]
theorem zbI (p i x:Nat):dg p (i+1) x=dg p i (x/p):=by
  unfold dg;rw [Nat.pow_succ,Nat.mul_comm,Nat.div_div_eq_div_mul]
theorem zhb {p:Nat} (hp:2≤p) (i x:Nat):dg p i x<p:=Nat.mod_lt _ (by omega)
theorem yax {p:Nat} (hp:2≤p) {i k x:Nat} (h:x<p^k) (hk:k≤i):dg p i x=0:=by
  unfold dg
  have:x<p^i:=Nat.lt_of_lt_of_le h (Nat.pow_le_pow_right (by omega) hk)
  rw [Nat.div_eq_of_lt this,Nat.zero_mod]
theorem zbt (p i:Nat):dg p i 0=0:=by simp [dg]
theorem ext {p:Nat} (hp:2≤p):∀ {a b:Nat},(∀i,dg p i a=dg p i b)→a=b:=by
  intro a
  induction a using Nat.strongRecOn with
  | _ a ih =>
    intro b h
    have h0:=h 0
    rw [zbw,zbw] at h0
    by_cases ha:a=0
    · subst ha
      have key:∀n,∀b,b≤n→(∀i,dg p i b=0)→b=0:=by
        intro n
        induction n with
        | zero=>intro b hb _;omega
        | succ n ihn =>
          intro b hb hz
          by_cases hb0:b=0
          · exact hb0
          · have hlt:b/p<b:=Nat.div_lt_self (by omega) (by omega)
            have hd:b/p=0:=ihn (b/p) (by omega) fun i=>by rw [←zbI];exact hz (i+1)
            have hm:b%p=0:=by rw [←zbw];exact hz 0
            have:=Nat.div_add_mod b p
            rw [hd,hm] at this
            simpa using this.symm
      exact (key b b (Nat.le_refl _) fun i=>by rw [←h i,zbt]).symm
    · have hlt:a/p<a:=Nat.div_lt_self (by omega) (by omega)
      have hd:a/p=b/p:=ih (a/p) hlt fun i=>by rw [←zbI,←zbI];exact h (i+1)
      have e1:=Nat.div_add_mod a p
      have e2:=Nat.div_add_mod b p
      rw [←e1,←e2,hd,h0]
theorem zcm {p:Nat} (hp:2≤p) {j r:Nat} (h:∀i,j≤i→dg p i r=0):r<p^j:=by
  have hpos:0<p^j:=Nat.pow_pos (by omega)
  have hq:r/p^j=0:=by
    refine ext hp fun i=>?_
    rw [zbt]
    have:=h (j+i) (by omega)
    unfold dg at this ⊢
    rw [Nat.pow_add,←Nat.div_div_eq_div_mul] at this
    exact this
  have:=Nat.div_add_mod r (p^j)
  rw [hq,Nat.mul_zero,Nat.zero_add] at this
  rw [←this]
  exact Nat.mod_lt _ hpos
theorem yfw {p:Nat} (hp:2≤p) {k t d:Nat} (ht:t<p^k) (hd:d<p) (i:Nat):dg p i (t+d*p^k)=if i=k then d else dg p i t:=by
  have hpos:0<p^k:=Nat.pow_pos (by omega)
  unfold dg
  by_cases h1:i<k
  · rw [if_neg (by omega)]
    obtain ⟨c,rfl⟩:∃c,k=i+(c+1):=⟨k-i-1,by omega⟩
    have e:d*p^(i+(c+1))=p^i*(d*p^c*p):=by rw [Nat.pow_add,Nat.pow_succ];ac_rfl
    rw [e,Nat.add_mul_div_left _ _ (Nat.pow_pos (by omega)),Nat.add_mul_mod_self_right]
  · by_cases h2:i=k
    · subst h2
      rw [if_pos rfl,Nat.add_mul_div_right _ _ hpos,Nat.div_eq_of_lt ht,Nat.zero_add,Nat.mod_eq_of_lt hd]
    · rw [if_neg h2]
      have hlt:t+d*p^k<p^i:=by
        have:t+d*p^k<p^(k+1):=by
          rw [Nat.pow_succ]
          calc t+d*p^k<p^k+d*p^k:=by omega
            _=(d+1)*p^k:=by rw [Nat.add_mul];omega
            _≤p*p^k:=Nat.mul_le_mul_right _ hd
            _=p^k*p:=Nat.mul_comm _ _
        exact Nat.lt_of_lt_of_le this (Nat.pow_le_pow_right (by omega) (by omega))
      rw [Nat.div_eq_of_lt hlt,Nat.div_eq_of_lt (Nat.lt_of_lt_of_le ht (Nat.pow_le_pow_right (by omega) (by omega)))]
theorem yeU {p:Nat} {k t d:Nat} (ht:t<p^k) (hd:d<p):t+d*p^k<p^(k+1):=by
  rw [Nat.pow_succ]
  calc t+d*p^k<p^k+d*p^k:=by omega
    _=(d+1)*p^k:=by rw [Nat.add_mul];omega
    _≤p*p^k:=Nat.mul_le_mul_right _ hd
    _=p^k*p:=Nat.mul_comm _ _
def zaY (f:Nat→Nat):Nat→Nat:=fun i=>if i=0 then 0 else f (i-1)
def zaL (m:Nat) (t f:Nat→Nat):Nat→Nat:=fun i=>if i<m then zaY f i+f (m-1)*t i else 0
def tn (m:Nat) (t:Nat→Nat):Nat→(Nat→Nat)→(Nat→Nat)→Nat→Nat
  | 0,_,_=>fun _=>0
  | k+1,f,y=>fun i=>f 0*y i+tn m t k (fun j=>f (j+1)) (zaL m t y) i
def zbJ (m:Nat) (t:Nat→Nat) (q:Nat) (f:Nat→Nat):Nat→Nat:=fun i=>f i+if q-m≤i∧i<q then f q*t (i-(q-m)) else 0
def redF (m:Nat) (t:Nat→Nat):Nat→(Nat→Nat)→(Nat→Nat)
  | 0,f=>f
  | j+1,f=>redF m t j (zbJ m t (m+j) f)
def zdf:Nat→(Nat→Nat)→(Nat→Nat)→Nat→Nat
  | 0,_,_=>fun _=>0
  | k+1,f,y=>fun i=>f 0*y i+zaY (zdf k (fun j=>f (j+1)) y) i
section
variable {m:Nat} {t:Nat→Nat}
theorem zeT (q c:Nat) (f g:Nat→Nat):zbJ m t q (fun i=>c*f i+g i)=fun i=>c*zbJ m t q f i+zbJ m t q g i:=by
  funext i
  unfold zbJ
  split
  · dsimp only;rw [Nat.mul_add,Nat.add_mul];ac_rfl
  · simp
theorem zey (c:Nat):∀(j:Nat) (f g:Nat→Nat),redF m t j (fun i=>c*f i+g i)=fun i=>c*redF m t j f i+redF m t j g i
  | 0,f,g=>rfl
  | j+1,f,g=>by
    show redF m t j (zbJ m t (m+j) fun i=>c*f i+g i)=_
    rw [zeT,zey c j]
    rfl
theorem zd9 {q:Nat} (hq:m≤q) (f:Nat→Nat):zbJ m t (q+1) (zaY f)=zaY (zbJ m t q f):=by
  funext i
  unfold zbJ zaY
  by_cases h0:i=0
  · subst h0
    rw [if_pos rfl,if_pos rfl]
    rw [if_neg (by omega)]
  · rw [if_neg h0,if_neg h0,if_neg (show ¬ q+1=0 by omega)]
    congr 1
    by_cases h1:q-m≤i-1∧i-1<q
    · rw [if_pos h1,if_pos (by omega),Nat.add_sub_cancel]
      congr 2
      omega
    · rw [if_neg h1,if_neg (by omega)]
theorem ydc (hm:1≤m):∀(j:Nat) (f:Nat→Nat) (i:Nat),i<m→redF m t (j+1) (zaY f) i=zaL m t (redF m t j f) i
  | 0,f,i,hi=>by
    show zbJ m t (m+0) (zaY f) i=zaL m t f i
    unfold zbJ zaL
    rw [if_pos hi,if_pos (by omega)]
    congr 1
    show zaY f (m+0)*t (i-(m+0-m))=_
    unfold zaY
    rw [if_neg (by omega)]
    simp
  | j+1,f,i,hi=>by
    show redF m t (j+1) (zbJ m t (m+(j+1)) (zaY f)) i=zaL m t (redF m t j (zbJ m t (m+j) f)) i
    rw [←ydc hm j (zbJ m t (m+j) f) i hi,←zd9 (by omega)]
    rfl
theorem yel:∀(j:Nat) (f:Nat→Nat),(∀q,m≤q→f q=0)→redF m t j f=f
  | 0,f,_=>rfl
  | j+1,f,h=>by
    have e:zbJ m t (m+j) f=f:=by
      funext i
      unfold zbJ
      rw [h (m+j) (by omega)]
      simp
    show redF m t j (zbJ m t (m+j) f)=f
    rw [e]
    exact yel j f h
theorem ydD (c:Nat) (f g:Nat→Nat):zaL m t (fun i=>c*f i+g i)=fun i=>c*zaL m t f i+zaL m t g i:=by
  funext i
  unfold zaL zaY
  split
  · split
    · simp [Nat.mul_add,Nat.add_mul,Nat.mul_assoc]
    · dsimp only;rw [Nat.mul_add,Nat.add_mul];ac_rfl
  · simp
theorem yd6:∀(k:Nat) (f y:Nat→Nat),zaL m t (tn m t k f y)=tn m t k f (zaL m t y)
  | 0,f,y=>by
    funext i
    show zaL m t (fun _=>0) i=0
    unfold zaL zaY
    split
    · split <;> simp
    · rfl
  | k+1,f,y=>by
    show zaL m t (fun i=>f 0*y i+tn m t k (fun j=>f (j+1)) (zaL m t y) i)=_
    rw [ydD,yd6 k]
    rfl
theorem zeA (hm:1≤m):∀(k:Nat) (f y:Nat→Nat),(∀q,m≤q→y q=0)→∀i,i<m→redF m t k (zdf (k+1) f y) i=tn m t (k+1) f y i
  | 0,f,y,hy,i,hi=>by
    show f 0*y i+zaY (fun _=>0) i=f 0*y i+0
    unfold zaY
    split <;> rfl
  | k+1,f,y,hy,i,hi=>by
    show redF m t (k+1) (fun i=>f 0*y i+zaY (zdf (k+1) (fun j=>f (j+1)) y) i) i=f 0*y i+tn m t (k+1) (fun j=>f (j+1)) (zaL m t y) i
    rw [zey]
    show f 0*redF m t (k+1) y i+redF m t (k+1) (zaY (zdf (k+1) (fun j=>f (j+1)) y)) i=_
    rw [yel (k+1) y hy,ydc hm k _ i hi]
    congr 1
    have e:∀i,i<m→redF m t k (zdf (k+1) (fun j=>f (j+1)) y) i=tn m t (k+1) (fun j=>f (j+1)) y i:=fun i hi=>zeA hm k _ y hy i hi
    rw [←yd6]
    unfold zaL zaY
    rw [if_pos hi,if_pos hi,e (m-1) (by omega)]
    by_cases h0:i=0
    · rw [if_pos h0,if_pos h0]
    · rw [if_neg h0,if_neg h0,e (i-1) (by omega)]
end
theorem ycl {m:Nat} {t:Nat→Nat}:∀(k:Nat) (f y:Nat→Nat) (i:Nat),(∀j,f j=0)→tn m t k f y i=0
  | 0,_,_,_,_=>rfl
  | k+1,f,y,i,h=>by
    show f 0*y i+tn m t k (fun j=>f (j+1)) (zaL m t y) i=0
    rw [h 0,ycl k _ _ i fun j=>h (j+1)]
    simp
theorem ybH {p a b c d:Nat} (h1:a%p=c%p) (h2:b%p=d%p):(a+b)%p=(c+d)%p:=by rw [Nat.add_mod,h1,h2,←Nat.add_mod]
theorem ydp {p a b c d:Nat} (h1:a%p=c%p) (h2:b%p=d%p):(a*b)%p=(c*d)%p:=by rw [Nat.mul_mod,h1,h2,←Nat.mul_mod]
theorem ydZ {p m:Nat} (hm:1≤m) {t y y':Nat→Nat} (h:∀i,i<m→y i%p=y' i%p) (i:Nat):zaL m t y i%p=zaL m t y' i%p:=by
  unfold zaL zaY
  split
  · refine ybH ?_ (ydp (h (m-1) (by omega)) rfl)
    split
    · rfl
    · exact h (i-1) (by omega)
  · rfl
theorem ybu {p m:Nat} (hm:1≤m) {t:Nat→Nat}:∀(k:Nat) (f y y':Nat→Nat),(∀i,i<m→y i%p=y' i%p)→∀i,i<m→tn m t k f y i%p=tn m t k f y' i%p
  | 0,_,_,_,_,_,_=>rfl
  | k+1,f,y,y',h,i,hi=>ybH (ydp rfl (h i hi)) (ybu hm k _ _ _ (fun j _=>ydZ hm h j) i hi)
theorem zcP (p x:Nat):(fun j=>dg p (j+1) x)=fun j=>dg p j (x/p):=by funext j;exact zbI p j x
theorem ydT (p i x:Nat):dg p i x%p=dg p i x:=by unfold dg;exact Nat.mod_mod _ _
theorem yhk {p:Nat} (hp:2≤p) (k i x:Nat):dg p i (x%p^k)=if i<k then dg p i x else 0:=by
  by_cases h:i<k
  · rw [if_pos h]
    unfold dg
    obtain ⟨c,rfl⟩:∃c,k=i+(c+1):=⟨k-i-1,by omega⟩
    rw [Nat.pow_add,Nat.mod_mul_right_div_self,Nat.pow_succ,Nat.mul_comm (p^c) p,Nat.mod_mul_right_mod]
  · rw [if_neg h]
    exact yax hp (Nat.mod_lt _ (Nat.pow_pos (by omega))) (by omega)
theorem zhl {p:Nat} (hp:2≤p) (i x:Nat):dg p i (x*p)=if i=0 then 0 else dg p (i-1) x:=by
  cases i with
  | zero=>rw [zbw,if_pos rfl,Nat.mul_mod_left]
  | succ i=>rw [if_neg (by omega),zbI,Nat.mul_div_cancel _ (by omega)];rfl
theorem zgF {p m x:Nat} (hp:2≤p) (hm:1≤m) (h:x<p^m):x/p^(m-1)=dg p (m-1) x:=by
  unfold dg
  rw [Nat.mod_eq_of_lt]
  obtain ⟨c,rfl⟩:∃c,m=c+1:=⟨m-1,by omega⟩
  exact Nat.div_lt_of_lt_mul (by simpa [Nat.pow_succ] using h)
end Dg
end
section
-- text: MathB
namespace Dg
def ofF (p:Nat):Nat→(Nat→Nat)→Nat
  | 0,_=>0
  | m+1,f=>f 0%p+p*ofF p m (fun j=>f (j+1))
theorem zej {p:Nat} (hp:2≤p):∀(m:Nat) (f:Nat→Nat),ofF p m f<p^m
  | 0,f=>by simp [ofF]
  | m+1,f=>by
    have h:=zej hp m fun j=>f (j+1)
    have h1:f 0%p<p:=Nat.mod_lt _ (by omega)
    show f 0%p+p*ofF p m (fun j=>f (j+1))<p^(m+1)
    calc f 0%p+p*ofF p m (fun j=>f (j+1))<p+p*ofF p m (fun j=>f (j+1)):=by omega
      _=p*(ofF p m (fun j=>f (j+1))+1):=by rw [Nat.mul_add,Nat.mul_one,Nat.add_comm]
      _≤p*p^m:=Nat.mul_le_mul_left _ h
      _=p^(m+1):=by rw [Nat.pow_succ,Nat.mul_comm]
theorem zdN {p:Nat} (hp:2≤p):∀(m:Nat) (f:Nat→Nat) (i:Nat),dg p i (ofF p m f)=if i<m then f i%p else 0
  | 0,f,i=>by simp [ofF,zbt]
  | m+1,f,i=>by
    have h1:f 0%p<p:=Nat.mod_lt _ (by omega)
    cases i with
    | zero =>
      rw [if_pos (by omega),zbw]
      show (f 0%p+p*ofF p m (fun j=>f (j+1)))%p=f 0%p
      rw [Nat.add_mul_mod_self_left,Nat.mod_mod]
    | succ i =>
      rw [zbI]
      show dg p i ((f 0%p+p*ofF p m (fun j=>f (j+1)))/p)=_
      rw [Nat.add_mul_div_left _ _ (by omega),Nat.div_eq_of_lt h1,Nat.zero_add,zdN hp m]
      by_cases h:i<m
      · rw [if_pos h,if_pos (by omega)]
      · rw [if_neg h,if_neg (by omega)]
theorem ybT {p:Nat} (hp:2≤p) {m a b:Nat} (ha:a<p^m) (hb:b<p^m) (h:∀i,i<m→dg p i a=dg p i b):a=b :=
  ext hp fun i=>by
    by_cases hi:i<m
    · exact h i hi
    · rw [yax hp ha (by omega),yax hp hb (by omega)]
abbrev dgs (p x:Nat):Nat→Nat:=fun i=>dg p i x
def add (p m x y:Nat):Nat:=ofF p m fun i=>dg p i x+dg p i y
def sub (p m x y:Nat):Nat:=ofF p m fun i=>dg p i x+(p-1)*dg p i y
def up (p m t x:Nat):Nat:=ofF p m (zaL m (dgs p t) (dgs p x))
def mulN (p m t:Nat):Nat→Nat→Nat→Nat
  | 0,_,_=>0
  | k+1,x,y=>ofF p m fun i=>x%p*dg p i y+dg p i (mulN p m t k (x/p) (up p m t y))
def mul (p m t x y:Nat):Nat:=mulN p m t m x y
section
variable {p m t:Nat} (hp:2≤p) (hm:1≤m)
include hp hm
theorem zfM:∀(k x y i:Nat),i<m→dg p i (mulN p m t k x y)=tn m (dgs p t) k (dgs p x) (dgs p y) i%p
  | 0,x,y,i,hi=>by show dg p i 0=0%p;rw [zbt];simp
  | k+1,x,y,i,hi=>by
    show dg p i (ofF p m fun i=>x%p*dg p i y+dg p i (mulN p m t k (x/p) (up p m t y)))=_
    rw [zdN hp,if_pos hi]
    show _=(dg p 0 x*dg p i y+tn m (dgs p t) k (fun j=>dg p (j+1) x) (zaL m (dgs p t) (dgs p y)) i)%p
    rw [zfM k _ _ i hi,zbw]
    refine ybH rfl ?_
    rw [Nat.mod_mod,zcP]
    refine ybu hm k _ _ _ (fun j hj=>?_) i hi
    show dg p j (up p m t y)%p=_
    unfold up
    rw [zdN hp,if_pos hj,Nat.mod_mod]
theorem zgQ:∀(k x y:Nat),mulN p m t k x y<p^m
  | 0,x,y=>Nat.pow_pos (by omega)
  | k+1,x,y=>zej hp _ _
theorem zaN (x y:Nat):mul p m t x y<p^m:=zgQ hp hm _ _ _
theorem zbD (x y:Nat):add p m x y<p^m:=zej hp _ _
theorem yeB (x y:Nat):sub p m x y<p^m:=zej hp _ _
theorem zbB (x y i:Nat) (hi:i<m):dg p i (mul p m t x y)=tn m (dgs p t) m (dgs p x) (dgs p y) i%p:=zfM hp hm m x y i hi
theorem zbR (x y i:Nat) (hi:i<m):dg p i (add p m x y)=(dg p i x+dg p i y)%p:=by unfold add;rw [zdN hp,if_pos hi]
theorem zfn (x y i:Nat) (hi:i<m):dg p i (sub p m x y)=(dg p i x+(p-1)*dg p i y)%p:=by unfold sub;rw [zdN hp,if_pos hi]
theorem zdc {x y r:Nat} (hr:r<p^m) (h:∀i,i<m→dg p i r=tn m (dgs p t) m (dgs p x) (dgs p y) i%p):r=mul p m t x y :=
  ybT hp hr (zaN hp hm x y) fun i hi=>by rw [h i hi,zbB hp hm x y i hi]
theorem yfv {x y r:Nat} (hx:x<p^m) (hy:y<p^m) (h:∀i,dg p i r=(dg p i x+dg p i y)%p):r=add p m x y :=
  ext hp fun i=>by
    by_cases hi:i<m
    · rw [h,zbR hp hm x y i hi]
    · rw [h,yax hp (zbD hp hm x y) (by omega),yax hp hx (by omega),yax hp hy (by omega)];simp
end
section
variable {m:Nat} {t:Nat→Nat}
theorem zdC (c:Nat):∀(k:Nat) (f y z:Nat→Nat),tn m t k f (fun i=>c*y i+z i)=fun i=>c*tn m t k f y i+tn m t k f z i
  | 0,f,y,z=>by funext i;rfl
  | k+1,f,y,z=>by
    funext i
    show f 0*(c*y i+z i)+tn m t k (fun j=>f (j+1)) (zaL m t fun i=>c*y i+z i) i=c*(f 0*y i+tn m t k (fun j=>f (j+1)) (zaL m t y) i)+(f 0*z i+tn m t k (fun j=>f (j+1)) (zaL m t z) i)
    rw [ydD,zdC c k]
    dsimp only
    rw [Nat.mul_add,Nat.mul_add,Nat.mul_left_comm]
    omega
theorem zd5:∀(k l:Nat) (f g y:Nat→Nat),tn m t k f (tn m t l g y)=tn m t l g (tn m t k f y)
  | 0,l,f,g,y=>by
    show (fun _=>0)=tn m t l g (fun _=>0)
    have h:=zdC (m:=m) (t:=t) 0 l g (fun _=>0) (fun _=>0)
    funext i
    have h2:=zdC (m:=m) (t:=t) 1 l g (fun _=>0) (fun _=>0)
    have h3:=congrFun h2 i
    simp at h3
    exact h3.symm
  | k+1,l,f,g,y=>by
    show (fun i=>f 0*tn m t l g y i+tn m t k (fun j=>f (j+1)) (zaL m t (tn m t l g y)) i)=tn m t l g (fun i=>f 0*y i+tn m t k (fun j=>f (j+1)) (zaL m t y) i)
    rw [yd6,zd5 k,zdC]
def zb7 (s:Nat):Nat→Nat:=fun i=>if i=s then 1 else 0
theorem zfy {s:Nat} (h:s+1<m):zaL m t (zb7 s)=zb7 (s+1):=by
  funext i
  unfold zaL zaY zb7
  rw [if_neg (show ¬ m-1=s by omega),Nat.zero_mul,Nat.add_zero]
  by_cases hi:i<m
  · rw [if_pos hi]
    by_cases h0:i=0
    · rw [if_pos h0,if_neg (by omega)]
    · rw [if_neg h0]
      by_cases hs:i-1=s
      · rw [if_pos hs,if_pos (by omega)]
      · rw [if_neg hs,if_neg (by omega)]
  · rw [if_neg hi,if_neg (by omega)]
theorem yfE:∀(k s:Nat) (f:Nat→Nat) (i:Nat),s+k≤m→tn m t k f (zb7 s) i=if s≤i∧i<s+k then f (i-s) else 0
  | 0,s,f,i,_=>by rw [if_neg (by omega)];rfl
  | k+1,s,f,i,h=>by
    show f 0*zb7 s i+tn m t k (fun j=>f (j+1)) (zaL m t (zb7 s)) i=_
    cases k with
    | zero =>
      show f 0*zb7 s i+0=_
      unfold zb7
      by_cases hi:i=s
      · rw [if_pos hi,if_pos (by omega)];subst hi;simp
      · rw [if_neg hi,if_neg (by omega)];simp
    | succ k =>
      rw [zfy (by omega),yfE (k+1) (s+1) _ i (by omega)]
      unfold zb7
      by_cases hi:i=s
      · subst hi;rw [if_pos rfl,if_neg (by omega),if_pos (by omega)];simp
      · rw [if_neg hi]
        by_cases h2:s+1≤i∧i<s+1+(k+1)
        · rw [if_pos h2,if_pos (by omega)]
          show f 0*0+f (i-(s+1)+1)=f (i-s)
          rw [Nat.mul_zero,Nat.zero_add];congr 1;omega
        · rw [if_neg h2,if_neg (by omega)];simp
theorem zfI (f:Nat→Nat) (i:Nat) (hi:i<m):tn m t m f (zb7 0) i=f i:=by
  rw [yfE m 0 f i (by omega),if_pos (by omega),Nat.sub_zero]
end
section
variable {p m t:Nat} (hp:2≤p) (hm:1≤m)
include hp hm
theorem mul_comm (x y:Nat):mul p m t x y=mul p m t y x:=by
  refine ybT hp (zaN hp hm _ _) (zaN hp hm _ _) fun i hi=>?_
  rw [zbB hp hm _ _ i hi,zbB hp hm _ _ i hi]
  have h1:=ybu (p:=p) hm (t:=dgs p t) m (dgs p x) (dgs p y) (tn m (dgs p t) m (dgs p y) (zb7 0)) (fun j hj=>by rw [zfI _ j hj]) i hi
  have h2:=ybu (p:=p) hm (t:=dgs p t) m (dgs p y) (dgs p x) (tn m (dgs p t) m (dgs p x) (zb7 0)) (fun j hj=>by rw [zfI _ j hj]) i hi
  rw [h1,h2,zd5]
theorem mul_left_comm (x y z:Nat):mul p m t x (mul p m t y z)=mul p m t y (mul p m t x z):=by
  refine ybT hp (zaN hp hm _ _) (zaN hp hm _ _) fun i hi=>?_
  rw [zbB hp hm _ _ i hi,zbB hp hm _ _ i hi]
  have h1:=ybu (p:=p) hm (t:=dgs p t) m (dgs p x) (dgs p (mul p m t y z)) (tn m (dgs p t) m (dgs p y) (dgs p z)) (fun j hj=>by show dg p j _%p=_;rw [zbB hp hm _ _ j hj,Nat.mod_mod]) i hi
  have h2:=ybu (p:=p) hm (t:=dgs p t) m (dgs p y) (dgs p (mul p m t x z)) (tn m (dgs p t) m (dgs p x) (dgs p z)) (fun j hj=>by show dg p j _%p=_;rw [zbB hp hm _ _ j hj,Nat.mod_mod]) i hi
  rw [h1,h2,zd5]
theorem mul_assoc (x y z:Nat):mul p m t (mul p m t x y) z=mul p m t x (mul p m t y z):=by
  rw [mul_comm hp hm _ z,mul_left_comm hp hm z x y,mul_comm hp hm z y]
theorem mul_add (x y z:Nat):mul p m t x (add p m y z)=add p m (mul p m t x y) (mul p m t x z):=by
  refine ybT hp (zaN hp hm _ _) (zbD hp hm _ _) fun i hi=>?_
  rw [zbB hp hm _ _ i hi,zbR hp hm _ _ i hi,zbB hp hm _ _ i hi,zbB hp hm _ _ i hi]
  have h1:=ybu (p:=p) hm (t:=dgs p t) m (dgs p x) (dgs p (add p m y z)) (fun i=>1*dgs p y i+dgs p z i) (fun j hj=>by show dg p j _%p=(1*dg p j y+dg p j z)%p;rw [zbR hp hm _ _ j hj,Nat.mod_mod,Nat.one_mul]) i hi
  rw [h1,zdC]
  dsimp only
  rw [Nat.one_mul,←Nat.add_mod]
theorem zaM:1<p^m:=by
  have:p^1≤p^m:=Nat.pow_le_pow_right (by omega) hm
  rw [Nat.pow_one] at this;omega
theorem zhc (i:Nat):dg p i 1=zb7 0 i:=by
  unfold zb7
  cases i with
  | zero=>rw [zbw,if_pos rfl,Nat.mod_eq_of_lt (by omega)]
  | succ i=>rw [if_neg (by omega),zbI,Nat.div_eq_of_lt (by omega),zbt]
theorem mul_one {x:Nat} (hx:x<p^m):mul p m t x 1=x:=by
  refine ybT hp (zaN hp hm _ _) hx fun i hi=>?_
  rw [zbB hp hm _ _ i hi,show dgs p 1=zb7 0 from funext fun i=>zhc hp hm i,zfI _ i hi,ydT]
theorem one_mul {x:Nat} (hx:x<p^m):mul p m t 1 x=x:=by rw [mul_comm hp hm,mul_one hp hm hx]
theorem zero_mul (x:Nat):mul p m t 0 x=0:=by
  refine ybT hp (zaN hp hm _ _) (Nat.pow_pos (by omega)) fun i hi=>?_
  rw [zbB hp hm _ _ i hi,ycl _ _ _ _ (fun j=>zbt p j),zbt];simp
theorem mul_zero (x:Nat):mul p m t x 0=0:=by rw [mul_comm hp hm,zero_mul hp hm]
theorem add_comm (x y:Nat):add p m x y=add p m y x:=by
  unfold add;congr 1;funext i;exact Nat.add_comm _ _
theorem add_assoc (x y z:Nat):add p m (add p m x y) z=add p m x (add p m y z):=by
  refine ybT hp (zbD hp hm _ _) (zbD hp hm _ _) fun i hi=>?_
  rw [zbR hp hm _ _ i hi,zbR hp hm _ _ i hi,zbR hp hm _ _ i hi,zbR hp hm _ _ i hi,Nat.mod_add_mod,Nat.add_mod_mod,Nat.add_assoc]
theorem add_zero {x:Nat} (hx:x<p^m):add p m x 0=x:=by
  refine ybT hp (zbD hp hm _ _) hx fun i hi=>?_
  rw [zbR hp hm _ _ i hi,zbt,Nat.add_zero,ydT]
theorem zero_add {x:Nat} (hx:x<p^m):add p m 0 x=x:=by rw [add_comm hp hm,add_zero hp hm hx]
theorem yef {x y:Nat} (hx:x<p^m):add p m (sub p m x y) y=x:=by
  refine ybT hp (zbD hp hm _ _) hx fun i hi=>?_
  rw [zbR hp hm _ _ i hi,zfn hp hm _ _ i hi,Nat.mod_add_mod,show dg p i x+(p-1)*dg p i y+dg p i y=dg p i x+p*dg p i y by obtain ⟨k,rfl⟩:∃k,p=k+1:=⟨p-1,by omega⟩;rw [Nat.add_sub_cancel,Nat.add_mul];omega,Nat.add_mul_mod_self_left,ydT]
theorem ydr {x y:Nat} (hx:x<p^m):sub p m (add p m x y) y=x:=by
  refine ybT hp (yeB hp hm _ _) hx fun i hi=>?_
  rw [zfn hp hm _ _ i hi,zbR hp hm _ _ i hi,Nat.mod_add_mod,show dg p i x+dg p i y+(p-1)*dg p i y=dg p i x+p*dg p i y by obtain ⟨k,rfl⟩:∃k,p=k+1:=⟨p-1,by omega⟩;rw [Nat.add_sub_cancel,Nat.add_mul];omega,Nat.add_mul_mod_self_left,ydT]
def pw (p m t x:Nat):Nat→Nat
  | 0=>1
  | n+1=>mul p m t (pw p m t x n) x
theorem zbo (x n:Nat):pw p m t x n<p^m:=by
  cases n with
  | zero=>exact zaM hp hm
  | succ n=>exact zaN hp hm _ _
theorem ybR (x a:Nat):∀b,pw p m t x (a+b)=mul p m t (pw p m t x a) (pw p m t x b)
  | 0=>(mul_one hp hm (zbo hp hm x a)).symm
  | b+1=>by
    show mul p m t (pw p m t x (a+b)) x=mul p m t (pw p m t x a) (mul p m t (pw p m t x b) x)
    rw [ybR x a b,mul_assoc hp hm]
theorem yb9 {x:Nat} (hx:x<p^m):pw p m t x 1=x:=one_mul hp hm hx
theorem zbE (x a:Nat):∀b,pw p m t x (a*b)=pw p m t (pw p m t x a) b
  | 0=>rfl
  | b+1=>by
    rw [Nat.mul_succ,ybR hp hm,zbE x a b];rfl
theorem zcb:∀n,pw p m t 1 n=1
  | 0=>rfl
  | n+1=>by
    show mul p m t (pw p m t 1 n) 1=1
    rw [zcb n,mul_one hp hm (zaM hp hm)]
theorem zcf (n:Nat):pw p m t 0 (n+1)=0:=mul_zero hp hm _
theorem zc6 (x y:Nat):∀n,pw p m t (mul p m t x y) n=mul p m t (pw p m t x n) (pw p m t y n)
  | 0=>(mul_one hp hm (zaM hp hm)).symm
  | n+1=>by
    show mul p m t (pw p m t (mul p m t x y) n) (mul p m t x y)=mul p m t (mul p m t (pw p m t x n) x) (mul p m t (pw p m t y n) y)
    rw [zc6 x y n,mul_assoc hp hm,mul_assoc hp hm,mul_left_comm hp hm (pw p m t y n) x y]
end
end Dg
end
section
-- text: MathC
namespace Dg
def ydA:List (Nat×Nat×List (Nat×Nat)):=[(2,1,[(1,0)]),(2,2,[(2,2),(3,3),(2,3),(2,0)]),(2,3,[(2,4),(3,7),(2,5),(2,0),(2,6),(2,0),(2,7),(3,5)]),(2,4,[(2,8),(3,15),(2,9),(2,0),(2,10),(7,7),(2,11),(3,13),(2,12),(2,0),(2,13),(3,9),(2,14),(3,11),(2,15),(3,0)]),(3,1,[(2,0)]),(3,2,[(3,3),(4,5),(4,0),(3,5),(3,0),(4,4),(3,4),(3,0),(5,5)]),(3,3,[(3,9),(5,13),(4,16),(3,11),(6,0),(3,0),(3,10),(4,17),(5,14),(3,15),(4,14),(3,0),(3,17),(4,0),(4,13),(3,16),(5,10),(3,0),(3,12),(5,0),(5,17),(3,14),(4,11),(3,0),(3,13),(4,0),(4,10)]),(5,1,[(2,0)]),(5,2,[(5,5),(6,9),(7,0),(6,0),(7,8),(5,9),(7,7),(6,8),(5,0),(6,0),(5,8),(6,0),(5,0),(6,7),(9,9),(5,7),(8,0),(5,0),(8,9),(6,6),(5,6),(8,8),(7,9),(5,0),(7,0)]),(7,1,[(3,0)]),(11,1,[(2,0)]),(13,1,[(2,0)]),(2,5,[(2,16),(3,31),(2,17),(7,13),(2,18),(2,0),(2,19),(3,29),(2,20),(2,0),(2,21),(3,25),(2,22),(3,27),(2,23),(2,0),(2,24),(7,11),(2,25),(3,17),(2,26),(3,19),(2,27),(2,0),(2,28),(3,23),(2,29),(2,0),(2,30),(2,0),(2,31),(3,21)]),(2,6,[(2,32),(3,63),(2,33),(2,0),(2,34),(11,11),(2,35),(3,61),(2,36),(3,0),(2,37),(3,57),(2,38),(3,59),(2,39),(7,25),(2,40),(13,13),(2,41),(3,49),(2,42),(3,51),(2,43),(3,0),(2,44),(3,55),(2,45),(2,0),(2,46),(7,31),(2,47),(3,53),(2,48),(2,0),(2,49),(3,33),(2,50),(3,35),(2,51),(2,0),(2,52),(3,39),(2,53),(7,21),(2,54),(2,0),(2,55),(3,37),(2,56),(3,47),(2,57),(2,0),(2,58),(3,0),(2,59),(3,45),(2,60),(7,19),(2,61),(3,41),(2,62),(3,43),(2,63),(11,13)]),(7,2,[(7,7),(8,13),(10,11),(8,0),(9,12),(8,0),(9,0),(7,13),(9,0),(8,12),(9,0),(7,0),(10,10),(9,11),(7,12),(9,10),(7,0),(8,11),(7,0),(8,0),(13,13),(7,11),(8,0),(7,0),(9,9),(8,10),(12,13),(8,0),(7,10),(11,0),(7,0),(12,12),(11,13),(8,9),(11,0),(7,9),(11,12),(7,0),(10,13),(7,0),(10,0),(8,8),(7,8),(10,0),(9,13),(10,0),(7,0),(11,11),(10,12)]),(61,1,[(2,0)]),(17,1,[(3,0)]),(19,1,[(2,0)]),(23,1,[(5,0)]),(29,1,[(2,0)]),(31,1,[(3,0)]),(37,1,[(2,0)]),(41,1,[(6,0)]),(43,1,[(3,0)]),(47,1,[(5,0)]),(53,1,[(2,0)]),(59,1,[(2,0)])]
def menu:List (Nat×Nat):=ydA.map fun c=>(c.1,c.2.1)
def zbz (p m t b:Nat):Nat→Nat→List Nat
  | _,0=>[]
  | x,n+1=>x::zbz p m t b (mul p m t x b) n
def lowB (p m t b:Nat):Bool:=((zbz p m t b 1 (p^m-1)).drop 1).contains 1
def yfD (p m t b:Nat):Bool:=(List.range b).all (fun c=>c==0||lowB p m t c)&&!lowB p m t b&&decide (0<b)&&(List.range (p^m)).all (fun y=>y==0||(zbz p m t b 1 (p^m-1)).contains y)&&(zbz p m t b 1 (p^m)).getLast?==some 1&&decide (b<p^m)
def yd3 (p m t:Nat) (c:Nat×Nat):Bool:=if c.2=0 then yfD p m t c.1 else decide (0<c.1∧c.1<p^m∧c.1<p^(m/2+1)∧c.2<p^m)&&mul p m t c.1 c.2==0
def ydN (p m:Nat):Nat→List (Nat×Nat)→Bool
  | _,[]=>true
  | t,c::cs=>yd3 p m t c&&ydN p m (t+1) cs
def zhq:Bool:=ydA.all fun c=>ydN c.1 c.2.1 0 c.2.2
theorem ygq:zhq=true:=by decide +kernel
theorem ycC {p m t b:Nat}:∀(n k i:Nat),i<n→(zbz p m t b (pw p m t b k) n)[i]?=some (pw p m t b (k+i))
  | 0,k,i,h=>absurd h (Nat.not_lt_zero _)
  | n+1,k,0,h=>rfl
  | n+1,k,i+1,h=>by
    show (zbz p m t b (pw p m t b (k+1)) n)[i]?=_
    rw [ycC n (k+1) i (by omega),show k+1+i=k+(i+1) by omega]
theorem ycA {p m t b:Nat}:∀(n x:Nat),(zbz p m t b x n).length=n
  | 0,x=>rfl
  | n+1,x=>by show (zbz p m t b _ n).length+1=_;rw [ycA n]
structure Prim (p m t b:Nat):Prop where
  lt:b<p^m
  round:pw p m t b (p^m-1)=1
  all:∀y,0<y→y<p^m→∃i,i<p^m-1∧pw p m t b i=y
  pos:0<b
  min:∀i,0<i→i<p^m-1→pw p m t b i≠1
  low:∀c,0<c→c<b→∃i,0<i∧i<p^m-1∧pw p m t c i=1
theorem zgu {p m t b:Nat}:lowB p m t b=true↔∃i,0<i∧i<p^m-1∧pw p m t b i=1:=by
  unfold lowB
  rw [List.contains_iff_mem,List.mem_iff_getElem?]
  constructor
  · rintro ⟨j,h⟩
    rw [List.getElem?_drop] at h
    have hl:1+j<p^m-1:=by have:=(List.getElem?_eq_some_iff.mp h).1;rw [ycA] at this;exact this
    have g:=ycC (p:=p) (m:=m) (t:=t) (b:=b) (p^m-1) 0 (1+j) hl
    rw [show pw p m t b 0=1 from rfl,h] at g
    exact ⟨1+j,by omega,hl,by simpa using (Option.some.inj g).symm⟩
  · rintro ⟨i,h0,hi,e⟩
    refine ⟨i-1,?_⟩
    rw [List.getElem?_drop,show 1+(i-1)=i by omega]
    have g:=ycC (p:=p) (m:=m) (t:=t) (b:=b) (p^m-1) 0 i hi
    rw [show pw p m t b 0=1 from rfl,Nat.zero_add,e] at g
    exact g
theorem yc9 {p m t b:Nat} (hq:0<p^m) (h:yfD p m t b=true):Prim p m t b:=by
  unfold yfD at h
  simp only [Bool.and_eq_true] at h
  obtain ⟨⟨⟨⟨⟨k1,k2⟩,k3⟩,h1⟩,h2⟩,h3⟩:=h
  refine ⟨of_decide_eq_true h3,?_,fun y hy hy2=>?_,of_decide_eq_true k3,fun i hi hi2 e=>?_,fun c hc hc2=>?_⟩
  · have e:(zbz p m t b 1 (p^m)).getLast?=some 1:=by simpa using h2
    rw [List.getLast?_eq_getElem?,ycA] at e
    have g:=ycC (p:=p) (m:=m) (t:=t) (b:=b) (p^m) 0 (p^m-1) (by omega)
    rw [show pw p m t b 0=1 from rfl] at g
    rw [g] at e
    simpa using Option.some.inj e
  · rw [List.all_eq_true] at h1
    have g:=h1 y (List.mem_range.mpr hy2)
    rw [Bool.or_eq_true] at g
    rcases g with g|g
    · have:y=0:=by simpa using g
      omega
    · have g:y∈zbz p m t b 1 (p^m-1):=List.contains_iff_mem.mp g
      obtain ⟨i,hi,e⟩:=List.mem_iff_getElem.mp g
      rw [ycA] at hi
      have g2:=ycC (p:=p) (m:=m) (t:=t) (b:=b) (p^m-1) 0 i hi
      rw [show pw p m t b 0=1 from rfl,List.getElem?_eq_getElem (by rw [ycA];exact hi),e] at g2
      exact ⟨i,hi,by simpa using (Option.some.inj g2).symm⟩
  · have:=zgu.mpr ⟨i,hi,hi2,e⟩
    rw [this] at k2
    cases k2
  · have g:=List.all_eq_true.mp k1 c (List.mem_range.mpr hc2)
    rw [Bool.or_eq_true] at g
    rcases g with g|g
    · have:c=0:=by simpa using g
      omega
    · exact zgu.mp g
theorem yb3 {p m:Nat}:∀(cs:List (Nat×Nat)) (t i:Nat) (c:Nat×Nat),ydN p m t cs=true→cs[i]?=some c→yd3 p m (t+i) c=true
  | [],t,i,c,_,h=>by simp at h
  | d::cs,t,0,c,h,e=>by
    have h:(yd3 p m t d&&ydN p m (t+1) cs)=true:=h
    rw [Bool.and_eq_true] at h
    cases e
    exact h.1
  | d::cs,t,i+1,c,h,e=>by
    have h:(yd3 p m t d&&ydN p m (t+1) cs)=true:=h
    rw [Bool.and_eq_true] at h
    have g:=yb3 cs (t+1) i c h.2 (by simpa using e)
    rw [show t+(i+1)=t+1+i by omega];exact g
theorem zf6 (p t x y:Nat):mul p 1 t x y=mul p 1 0 x y:=rfl
theorem ycN (p t x:Nat):∀n,pw p 1 t x n=pw p 1 0 x n
  | 0=>rfl
  | n+1=>by
    show mul p 1 t (pw p 1 t x n) x=mul p 1 0 (pw p 1 0 x n) x
    rw [ycN p t x n,zf6]
structure Good (p m t:Nat):Prop where
  mem:(p,m)∈menu
  top:t<p^m
  no:m=1∨∀x y,0<x→x<p^m→x<p^(m/2+1)→0<y→y<p^m→mul p m t x y≠0
def yf7:Bool:=ydA.all fun c=>decide (2≤c.1∧1≤c.2.1∧c.1^c.2.1≤64)&&(if c.2.1=1 then decide (c.2.2.length=1)&&c.2.2.all (fun d=>d.2==0) else decide (c.2.2.length=c.1^c.2.1))
theorem ycH:yf7=true:=by decide +kernel
theorem zbF {p m:Nat} (h:(p,m)∈menu):2≤p∧1≤m∧p^m≤64:=by
  obtain ⟨c,hc,e⟩:=List.mem_map.mp h
  cases e
  have g:=List.all_eq_true.mp ycH c hc
  rw [Bool.and_eq_true] at g
  exact of_decide_eq_true g.1
theorem Good.prim {p m t:Nat} (h:Good p m t):∃b,Prim p m t b:=by
  obtain ⟨c,hc,e⟩:=List.mem_map.mp h.mem
  obtain ⟨p',m',cs⟩:=c
  obtain ⟨rfl,rfl⟩:p'=p∧m'=m:=by simpa using e
  have hs:=zbF h.mem
  have hq:0<p'^m':=Nat.pow_pos (by omega)
  have g:=List.all_eq_true.mp ycH _ hc
  have a:=List.all_eq_true.mp ygq _ hc
  rw [Bool.and_eq_true] at g
  have g:=g.2
  dsimp only at g a
  by_cases h1:m'=1
  · subst h1
    rw [if_pos rfl,Bool.and_eq_true] at g
    have hl:cs.length=1:=of_decide_eq_true g.1
    obtain ⟨c,rfl⟩:∃c,cs=[c]:=by
      cases cs with
      | nil=>simp at hl
      | cons c r=>cases r with
        | nil=>exact ⟨c,rfl⟩
        | cons d r=>simp at hl
    have a1:=yb3 [c] 0 0 c a rfl
    have c0:c.2=0:=by simpa using List.all_eq_true.mp g.2 c (by simp)
    unfold yd3 at a1
    rw [if_pos c0] at a1
    have P:=yc9 hq a1
    refine ⟨c.1,P.lt,?_,fun y hy hy2=>?_,P.pos,fun i h1 h2=>?_,fun d h1 h2=>?_⟩
    · rw [ycN];exact P.round
    · obtain ⟨i,hi,e⟩:=P.all y hy hy2
      exact ⟨i,hi,by rw [ycN];exact e⟩
    · rw [ycN];exact P.min i h1 h2
    · obtain ⟨i,a,b,e⟩:=P.low d h1 h2
      exact ⟨i,a,b,by rw [ycN];exact e⟩
  · rw [if_neg h1] at g
    have hl:cs.length=p'^m':=of_decide_eq_true g
    have ht:t<cs.length:=by rw [hl];exact h.top
    have a1:=yb3 cs 0 t cs[t] a (List.getElem?_eq_getElem ht)
    rw [Nat.zero_add] at a1
    unfold yd3 at a1
    by_cases c0:cs[t].2=0
    · rw [if_pos c0] at a1
      exact ⟨_,yc9 hq a1⟩
    · rw [if_neg c0,Bool.and_eq_true] at a1
      have b:=of_decide_eq_true a1.1
      rcases h.no with h2|h2
      · exact absurd h2 h1
      · exact absurd (by simpa using a1.2) (h2 _ _ b.1 b.2.1 b.2.2.1 (by omega) b.2.2.2)
section
variable {p m t:Nat} (G:Good p m t)
include G
theorem Good.hp:2≤p:=(zbF G.mem).1
theorem Good.hm:1≤m:=(zbF G.mem).2.1
theorem Good.hq:p^m≤64:=(zbF G.mem).2.2
theorem Good.fermat {x:Nat} (h0:0<x) (hx:x<p^m):pw p m t x (p^m-1)=1:=by
  obtain ⟨b,P⟩:=G.prim
  obtain ⟨i,_,rfl⟩:=P.all x h0 hx
  rw [←zbE G.hp G.hm,Nat.mul_comm,zbE G.hp G.hm,P.round,zcb G.hp G.hm]
theorem Good.inv {x:Nat} (h0:0<x) (hx:x<p^m):mul p m t (pw p m t x (p^m-2)) x=1:=by
  have h2:=zaM G.hp G.hm
  have e:p^m-1=(p^m-2)+1:=by omega
  have f:=G.fermat h0 hx
  rw [e] at f
  exact f
theorem Good.noz {x y:Nat} (h0:0<x) (hx:x<p^m) (k0:0<y) (hy:y<p^m):0<mul p m t x y:=by
  rcases Nat.eq_zero_or_pos (mul p m t x y) with e|e
  · have i:=G.inv h0 hx
    have f:mul p m t (pw p m t x (p^m-2)) (mul p m t x y)=y:=by rw [←mul_assoc G.hp G.hm,i,one_mul G.hp G.hm hy]
    rw [e,mul_zero G.hp G.hm] at f
    omega
  · exact e
theorem Good.inj {b:Nat} (P:Prim p m t b):∀i j,i<p^m-1→j<p^m-1→pw p m t b i=pw p m t b j→i=j:=by
  have key:∀i j,i<j→j<p^m-1→pw p m t b i≠pw p m t b j:=by
    intro i j hij hj e
    have hp:=G.hp
    have hm:=G.hm
    have h1:mul p m t (pw p m t b (p^m-1-i)) (pw p m t b i)=1:=by rw [←ybR hp hm,show p^m-1-i+i=p^m-1 by omega,P.round]
    have h2:mul p m t (pw p m t b (p^m-1-i)) (pw p m t b j)=pw p m t b (j-i):=by
      rw [show j=i+(j-i) by omega,ybR hp hm,←mul_assoc hp hm,h1,one_mul hp hm (zbo hp hm _ _),show i+(j-i)-i=j-i by omega]
    rw [←e,h1] at h2
    exact P.min (j-i) (by omega) (by omega) h2.symm
  intro i j hi hj e
  rcases Nat.lt_trichotomy i j with h|h|h
  · exact absurd e (key i j h hj)
  · exact h
  · exact absurd e.symm (key j i h hi)
theorem Good.pw_mod {x:Nat} (h0:0<x) (hx:x<p^m) (n:Nat):pw p m t x (n%(p^m-1))=pw p m t x n:=by
  have e:=Nat.div_add_mod n (p^m-1)
  have g:pw p m t x n=mul p m t (pw p m t x ((p^m-1)*(n/(p^m-1)))) (pw p m t x (n%(p^m-1))):=by rw [←ybR G.hp G.hm,e]
  rw [g,zbE G.hp G.hm,G.fermat h0 hx,zcb G.hp G.hm,one_mul G.hp G.hm (zbo G.hp G.hm _ _)]
end
end Dg
end
section
-- text: MathD
namespace Dg
def sumF (p m:Nat):Nat→(Nat→Nat)→Nat
  | 0,_=>0
  | k+1,f=>add p m (sumF p m k f) (f k)
section
variable {p m t:Nat} (hp:2≤p) (hm:1≤m)
include hp hm
theorem zbh:0<p^m:=Nat.pow_pos (by omega)
theorem yfM (k:Nat) (f:Nat→Nat):sumF p m k f<p^m:=by
  cases k with
  | zero=>exact zbh hp hm
  | succ k=>exact zbD hp hm _ _
theorem zcy (f:Nat→Nat) (k:Nat):∀d,(∀i,k≤i→i<k+d→f i=0)→sumF p m (k+d) f=sumF p m k f
  | 0,_=>rfl
  | d+1,h=>by
    show add p m (sumF p m (k+d) f) (f (k+d))=_
    rw [h (k+d) (by omega) (by omega),add_zero hp hm (yfM hp hm _ _),zcy f k d fun i h1 h2=>h i h1 (by omega)]
theorem zaZ {f g:Nat→Nat}:∀k,(∀i,i<k→f i=g i)→sumF p m k f=sumF p m k g
  | 0,_=>rfl
  | k+1,h=>by
    show add p m (sumF p m k f) (f k)=add p m (sumF p m k g) (g k)
    rw [zaZ k fun i hi=>h i (by omega),h k (by omega)]
theorem ycI {f:Nat→Nat} (hf:∀i,f i<p^m):∀k,sumF p m (k+1) f=add p m (f 0) (sumF p m k fun i=>f (i+1))
  | 0=>by
    show add p m 0 (f 0)=add p m (f 0) 0
    rw [add_comm hp hm]
  | k+1=>by
    show add p m (sumF p m (k+1) f) (f (k+1))=add p m (f 0) (add p m (sumF p m k fun i=>f (i+1)) (f (k+1)))
    rw [ycI hf k,add_assoc hp hm]
end
def conv (p m t:Nat) (xs ys:List Nat) (n:Nat):Nat:=sumF p m (n+1) fun i=>mul p m t (xs.getD i 0) (ys.getD (n-i) 0)
def zdz (p m t:Nat) (xs ys:List Nat) (k n:Nat):Nat:=sumF p m k fun i=>if i≤n then mul p m t (xs.getD i 0) (ys.getD (n-i) 0) else 0
theorem ya6 {xs:List Nat} {i:Nat} (h:xs.length≤i):xs.getD i 0=0:=by simp [List.getD,h]
section
variable {p m t:Nat} (hp:2≤p) (hm:1≤m)
include hp hm
theorem ycw (xs ys:List Nat) (k n:Nat):zdz p m t xs ys k n<p^m:=yfM hp hm _ _
theorem zfj (xs ys:List Nat) (n:Nat):zdz p m t xs ys xs.length n=conv p m t xs ys n:=by
  unfold zdz conv
  rcases Nat.le_total xs.length (n+1) with h|h
  · obtain ⟨d,e⟩:∃d,n+1=xs.length+d:=⟨n+1-xs.length,by omega⟩
    rw [e,zcy hp hm _ xs.length d fun i h1 h2=>by rw [ya6 h1,zero_mul hp hm]]
    exact zaZ hp hm _ fun i hi=>by rw [if_pos (by omega)]
  · obtain ⟨d,e⟩:∃d,xs.length=n+1+d:=⟨xs.length-(n+1),by omega⟩
    rw [e,zcy hp hm _ (n+1) d fun i h1 h2=>by rw [if_neg (by omega)]]
    exact zaZ hp hm _ fun i hi=>by rw [if_pos (by omega)]
end
end Dg
end
section
-- text: MathE
namespace Dg
def val (p m t x:Nat):List Nat→Nat
  | []=>0
  | a::r=>add p m (mul p m t (val p m t x r) x) a
section
variable {p m t:Nat} (hp:2≤p) (hm:1≤m)
include hp hm
theorem add_mul (x y z:Nat):mul p m t (add p m x y) z=add p m (mul p m t x z) (mul p m t y z):=by
  rw [mul_comm hp hm,mul_add hp hm,mul_comm hp hm z x,mul_comm hp hm z y]
theorem ycp (x:Nat) (l:List Nat):val p m t x l<p^m:=by
  cases l with
  | nil=>exact zbh hp hm
  | cons a r=>exact zbD hp hm _ _
theorem ycV (z:Nat):∀(k:Nat) (f:Nat→Nat),sumF p m k (fun i=>mul p m t (f i) z)=mul p m t (sumF p m k f) z
  | 0,f=>(zero_mul hp hm z).symm
  | k+1,f=>by
    show add p m (sumF p m k fun i=>mul p m t (f i) z) (mul p m t (f k) z)=mul p m t (add p m (sumF p m k f) (f k)) z
    rw [ycV z k f,add_mul hp hm]
theorem zd1:∀(k:Nat) (f g:Nat→Nat),sumF p m k (fun i=>add p m (f i) (g i))=add p m (sumF p m k f) (sumF p m k g)
  | 0,f,g=>(add_zero hp hm (zbh hp hm)).symm
  | k+1,f,g=>by
    show add p m (sumF p m k fun i=>add p m (f i) (g i)) (add p m (f k) (g k))=add p m (add p m (sumF p m k f) (f k)) (add p m (sumF p m k g) (g k))
    rw [zd1 k f g,add_assoc hp hm,add_assoc hp hm]
    congr 1
    rw [←add_assoc hp hm,add_comm hp hm (sumF p m k g) (f k),add_assoc hp hm]
theorem ybQ {x:Nat} (hx:x<p^m):∀l:List Nat,(∀a∈l,a<p^m)→val p m t x l=sumF p m l.length fun k=>mul p m t (l.getD k 0) (pw p m t x k)
  | [],_=>rfl
  | a::r,h=>by
    have ih:=ybQ hx r fun b hb=>h b (List.mem_cons_of_mem _ hb)
    show add p m (mul p m t (val p m t x r) x) a=sumF p m (r.length+1) _
    rw [ycI hp hm (fun i=>zaN hp hm _ _)]
    have e0:mul p m t ((a::r).getD 0 0) (pw p m t x 0)=a:=mul_one hp hm (h a List.mem_cons_self)
    have e1:sumF p m r.length (fun i=>mul p m t ((a::r).getD (i+1) 0) (pw p m t x (i+1)))=mul p m t (val p m t x r) x:=by
      rw [ih,←ycV hp hm]
      refine zaZ hp hm _ fun i hi=>?_
      show mul p m t (r.getD i 0) (mul p m t (pw p m t x i) x)=_
      rw [mul_assoc hp hm]
    rw [e0,e1,add_comm hp hm]
end
end Dg
end
section
-- text: MathF
namespace Dg
def zfS (p m t:Nat):Bool:=(List.range (p^m)).all fun y=>pw p m t (add p m 1 y) p==add p m 1 (pw p m t y p)
def yaN (p m:Nat):Nat→List (Nat×Nat)→Bool
  | _,[]=>true
  | t,c::cs=>(if c.2=0 then zfS p m t else true)&&yaN p m (t+1) cs
def ygY:Bool:=ydA.all fun c=>if c.2.1=1 then true else yaN c.1 c.2.1 0 c.2.2
theorem zfA{α:Type}{f:α→Bool}{l:List α}(k:Nat)(a:(l.take k).all f=true)(b:(l.drop k).all f=true):l.all f=true:=by rw [←List.take_append_drop k l,List.all_append,a,b];rfl
theorem ybU{p m:Nat}:∀(k t:Nat)(cs:List (Nat×Nat)),yaN p m t (cs.take k)=true→yaN p m (t+k) (cs.drop k)=true→yaN p m t cs=true
 |0,_,_,_,h=>h
 |_+1,_,[],_,_=>rfl
 |k+1,t,c::cs,a,b=>by
  have a:((if c.2=0 then zfS p m t else true)&&yaN p m (t+1) (cs.take k))=true:=a
  rw [Bool.and_eq_true] at a
  show ((if c.2=0 then zfS p m t else true)&&yaN p m (t+1) cs)=true
  rw [a.1,Bool.true_and]
  exact ybU k (t+1) cs a.2 (by rw [show t+1+k=t+(k+1) by omega];exact b)
def ye5(c:Nat×Nat×List (Nat×Nat)):Bool:=if c.2.1=1 then true else yaN c.1 c.2.1 0 c.2.2
def zgd:List (Nat×Nat):=(ydA.getD 13 (0,0,[])).2.2
theorem ygV:(ydA.take 13).all ye5=true:=by decide +kernel
theorem zgJ:yaN 2 6 0 (zgd.take 20)=true:=by decide +kernel
theorem zgO:yaN 2 6 20 ((zgd.drop 20).take 20)=true:=by decide +kernel
theorem zgU:yaN 2 6 40 ((zgd.drop 20).drop 20)=true:=by decide +kernel
theorem ygU:(ydA.drop 14).all ye5=true:=by decide +kernel
theorem ygN:ye5 (ydA.getD 13 (0,0,[]))=true:=ybU 20 0 zgd zgJ (ybU 20 20 _ zgO zgU)
theorem ygW:ygY=true:=zfA (f:=ye5) 13 ygV (zfA (f:=ye5) 1 ((Bool.and_true _).trans ygN) ygU)
theorem ycs {p m:Nat}:∀(cs:List (Nat×Nat)) (t i:Nat) (c:Nat×Nat),yaN p m t cs=true→cs[i]?=some c→c.2=0→zfS p m (t+i)=true
  | [],_,_,_,_,h,_=>by cases h
  | d::cs,t,0,c,h,e,h0=>by
    cases e
    unfold yaN at h
    rw [Bool.and_eq_true,if_pos h0] at h
    exact h.1
  | d::cs,t,i+1,c,h,e,h0=>by
    unfold yaN at h
    rw [Bool.and_eq_true] at h
    have:=ycs cs (t+1) i c h.2 e h0
    rw [show t+(i+1)=t+1+i by omega];exact this
section
variable {p m t:Nat} (G:Good p m t)
include G
theorem Good.pw_q {x:Nat} (hx:x<p^m):pw p m t x (p^m)=x:=by
  have h1:=zaM G.hp G.hm
  rcases Nat.eq_zero_or_pos x with h|h
  · rw [h,show p^m=(p^m-1)+1 by omega,zcf G.hp G.hm]
  · rw [show pw p m t x (p^m)=pw p m t x ((p^m-1)+1) by congr 1;omega,ybR G.hp G.hm,G.fermat h hx,yb9 G.hp G.hm hx,one_mul G.hp G.hm hx]
theorem Good.frob1 {y:Nat} (hy:y<p^m):pw p m t (add p m 1 y) p=add p m 1 (pw p m t y p):=by
  obtain ⟨c,hc,e⟩:=List.mem_map.mp G.mem
  obtain ⟨p',m',cs⟩:=c
  obtain ⟨rfl,rfl⟩:p'=p∧m'=m:=by simpa using e
  by_cases h1:m'=1
  · subst h1
    have e1:=G.pw_q (zbD (m:=1) G.hp G.hm 1 y)
    have e2:=G.pw_q hy
    rw [Nat.pow_one] at e1 e2
    rw [e1,e2]
  · have g:=List.all_eq_true.mp ycH _ hc
    have a:=List.all_eq_true.mp ygq _ hc
    have f:=List.all_eq_true.mp ygW _ hc
    rw [Bool.and_eq_true] at g
    have g:=g.2
    dsimp only at g a f
    rw [if_neg h1] at g f
    have hl:cs.length=p'^m':=of_decide_eq_true g
    have ht:t<cs.length:=by rw [hl];exact G.top
    have a1:=yb3 cs 0 t cs[t] a (List.getElem?_eq_getElem ht)
    rw [Nat.zero_add] at a1
    unfold yd3 at a1
    by_cases c0:cs[t].2=0
    · have f1:=ycs cs 0 t cs[t] f (List.getElem?_eq_getElem ht) c0
      rw [Nat.zero_add] at f1
      have:=List.all_eq_true.mp f1 y (List.mem_range.mpr hy)
      exact eq_of_beq this
    · rw [if_neg c0,Bool.and_eq_true] at a1
      have b:=of_decide_eq_true a1.1
      rcases G.no with h2|h2
      · exact absurd h2 h1
      · exact absurd (by simpa using a1.2) (h2 _ _ b.1 b.2.1 b.2.2.1 (by omega) b.2.2.2)
theorem Good.frob {x y:Nat} (hx:x<p^m) (hy:y<p^m):pw p m t (add p m x y) p=add p m (pw p m t x p) (pw p m t y p):=by
  have hp:=G.hp
  have hm:=G.hm
  rcases Nat.eq_zero_or_pos x with h|h
  · rw [h,zero_add hp hm hy,show p=(p-1)+1 by omega,zcf (by omega) (by omega),←show p=(p-1)+1 by omega,zero_add hp hm (zbo hp hm _ _)]
  · have hi:=zbo hp hm (t:=t) x (p^m-2)
    have e1:y=mul p m t x (mul p m t (pw p m t x (p^m-2)) y):=by
      rw [←mul_assoc hp hm,mul_comm hp hm x,G.inv h hx,one_mul hp hm hy]
    have e2:add p m x y=mul p m t x (add p m 1 (mul p m t (pw p m t x (p^m-2)) y)):=by
      rw [mul_add hp hm,mul_one hp hm hx,←e1]
    rw [e2,zc6 hp hm,G.frob1 (zaN hp hm _ _),mul_add hp hm,mul_one hp hm (zbo hp hm _ _),←zc6 hp hm,←e1]
theorem Good.frobN:∀(k:Nat) {x y:Nat},x<p^m→y<p^m→pw p m t (add p m x y) (p^k)=add p m (pw p m t x (p^k)) (pw p m t y (p^k))
  | 0,x,y,hx,hy=>by
    rw [Nat.pow_zero,yb9 G.hp G.hm (zbD G.hp G.hm _ _),yb9 G.hp G.hm hx,yb9 G.hp G.hm hy]
  | k+1,x,y,hx,hy=>by
    rw [Nat.pow_succ,zbE G.hp G.hm,zbE G.hp G.hm,zbE G.hp G.hm,Good.frobN k hx hy,G.frob (zbo G.hp G.hm _ _) (zbo G.hp G.hm _ _)]
end
end Dg
end
section
-- text: ExtRd
namespace L2
open PySem PySem.Spec PyProof.Rows
section
variable {X:Cx}
end
end L2
end
section
-- text: ExtRh
namespace L2
open PySem PySem.Spec PyProof.Rows
section
variable {M:Model} {A:Around} {E:Value→Shared→Prop} {s:Shared}
end
section
variable {P:Program} {w:World} {K:PySem.W.Frag} {mg:Str→Option Value} {base:Heap} {N:List Str} {qual:Str} {scope:Scope} {f:Addr} {cd:Value} {A:Around} {outer:List Env} {s₀:Shared} {H₀:Hp} {E:XK}
end
end L2
end
section
-- text: ExtRi
namespace L2
open PySem PySem.Spec PyProof.Rows
section
variable {P:Program} {w:World} {K:PySem.W.Frag} {mg:Str→Option Value} {base:Heap} {N:List Str} {qual:Str} {scope:Scope} {f:Addr} {cd:Value} {A:Around} {outer:List Env} {s₀:Shared} {H₀:Hp} {E:XK}
end
section
variable {P:Program} {w:World} {K:PySem.W.Frag} {mg:Str→Option Value} {base:Heap} {N:List Str} {qual:Str} {scope:Scope} {f:Addr} {cd:Value} {A:Around} {outer:List Env} {s₀:Shared} {H₀:Hp} {E:XK}
end
section
variable {X:Cx} {pins pins':List (Addr×Obj)} {σ:St} {H:Hp} {s:Shared} {F:Addr→St→Hp→Prop} {a:Addr}
end
end L2
end
section
-- text: ExtRj
namespace L2
open PySem PySem.Spec PyProof.Rows PySem.W
section
variable {prog:Program} {w:World} {A:Around} {E:Value→Shared→Prop} {s:Shared} {K:Frag} {e C:Addr}
end
end L2
namespace L2
open PySem PySem.Spec PyProof.Rows PySem.W
section
variable {K:Frag} {mg:Str→Option Value} {Re By Nr Tm Nt Nl:Addr}
end
end L2
namespace L2
open PySem PySem.Spec PyProof.Rows
section
variable {X:Cx}
end
end L2
namespace L2
open PySem PySem.Spec PyProof.Rows
end L2
namespace L2
open PySem PySem.Spec PyProof.Rows
section
variable {X:Cx} {o e:Expr} {es:List Expr} {to:TE} {t:TA} {name:Str} {apos cpos:Pos} {T:String} {id:String} {r:V→List V→Hp→VK→Prop} {K:PySem.W.Frag}
end
end L2
end
section
-- text: ExtRk
namespace L2
open PySem PySem.Spec PyProof.Rows
section
variable {X:Cx}
def zhk (K:PySem.W.Frag):V→List V→Hp→VK→Prop:=fun x vs H Q=>∃(l:Addr) (ns:List Int) (k:Int),x = .ref l∧vs=[.int k]∧SqL K H l (ns.map V.int)∧k∈ns∧Q (.int (ns.idxOf k:Nat)) H
theorem ygh:MtM X "list.index" (zhk X.K):=by
  intro pins s σ H x xs v us Q I rx r h
  obtain ⟨l,ns,k,rfl,rfl,hl,hk,q⟩:=h
  cases rx
  obtain ⟨u,rfl,ru⟩:=zcg r
  obtain ⟨t,rfl⟩:=ru
  obtain ⟨its,r1,p1,z1⟩:=I.list hl
  have hi:IntsAre its ns:=yce r1
  obtain ⟨⟨cls,dd,data,sl⟩,ho,hc,n,hd⟩:=id p1.isList
  simp only at hc hd
  subst hc hd
  have hlen:=hi.length
  have hj:ns.idxOf k<ns.length:=List.idxOf_lt_length_iff.mpr hk
  have hz:=zcN
  rw [List.length_map] at z1
  refine call_meets PySem.F.slot_list_index ⟨_,ho,rfl⟩ PySem.F.entry_list_index (PySem.F.args_list_index_2 _ _)
    (SeqAt.list_indexAt l its.toArray n dd sl (.int k t) (isInt k) (ns.idxOf k) (by simpa [hlen] using hj) (by have:=sizeLine_eq;omega) ?_ ?_) ⟨ho,fun y hy=>(eq_isInt k t hi y (by simpa using hy)).at _ _,?_⟩
  · show isInt k its[ns.idxOf k]=true
    rw [isInt_at k hi _ (by omega) hj]
    simpa using List.getElem_idxOf hj
  · intro j hjs hlt
    show isInt k its[j]=false
    rw [isInt_at k hi j (by simpa using hjs) (by omega)]
    exact ne_of_lt_idxOf hlt _
  · exact ⟨.int _,H,I.tok _,⟨_,rfl⟩,q⟩
end
end L2
namespace L2
open PySem PySem.Spec PyProof.Rows
section
variable {X:Cx}
end
end L2
end
section
-- text: ExtRl
namespace L2
open PySem PySem.Spec PyProof.Rows
section
variable {X:Cx}
end
end L2
namespace L2
open PySem PySem.Spec PyProof.Rows
section
variable {X:Cx}
end
end L2
namespace L2
open PySem PySem.Spec PyProof.Rows PySem.W
section
variable {K:Frag} {mg:Str→Option Value} {Re By Nr Tm:Addr}
end
end L2
end
section
-- text: ExtRm
namespace L2
open PySem PySem.Spec PyProof.Rows
section
variable {M:Model} {A:Around} {E:Value→Shared→Prop} {s:Shared}
end
section
variable {X:Cx}
end
end L2
namespace L2
open PySem PySem.Spec PyProof.Rows
end L2
end
section
-- text: ExtRn
namespace L2
open PySem PySem.Spec PyProof.Rows
section
variable {X:Cx}
def ydo (K:PySem.W.Frag) (H:Hp) (x:V) (T:String):Prop:=yfJ K H x T∨(T = "dict"∧∃a kvs,x = .ref a∧H a=some (.dK kvs))
def zge (K:PySem.W.Frag) (U:String):List V→Hp→VK→Prop:=fun xs H Q=>∃x T,xs=[x,.ty U]∧ydo K H x T∧Q (.bl (subK T U)) H
theorem ycz {U:String} (hU:subK "dict" U=false) (hty:typeOf (.type U)=pure (.type "type")) (hsub:isSubtype (.type "dict") (.type U)=pure false) (hc:zbk X (.builtin "isinstance") (rIsi X.K U)):zbk X (.builtin "isinstance") (zge X.K U):=by
  intro pins s σ H xs us Q I r h
  obtain ⟨x,T,rfl,hk,q⟩:=h
  rcases hk with hk | ⟨rfl,a,kvs,rfl,e⟩
  · exact hc pins s σ H _ us Q I r ⟨x,T,rfl,hk,q⟩
  · obtain ⟨u,w',rfl,rx,ry⟩:=zgY r
    cases ry;cases rx
    have ok:=I.hok _ _ e
    obtain ⟨_,_,vs,_,d⟩:=ok
    rw [hU] at q
    refine call_isinstance (isinstance_false_dict (yb6 hU) hty hsub) ⟨?_,⟨.bl false,H,I.tok _,rfl,q⟩⟩
    obtain ⟨o,es,ep,ho,hx,_⟩:=d
    exact ⟨o,ho,hx.1⟩
theorem zfX:zbk X (.builtin "isinstance") (zge X.K "int"):=ycz (by decide) (by rfl) (by rw [isSubtype_type];kernel_rfl) ygX
theorem ydX:zbk X (.builtin "isinstance") (zge X.K "bool"):=ycz (by decide) (by rfl) (by rw [isSubtype_type];kernel_rfl) zf3
theorem zeM:zbk X (.builtin "isinstance") (zge X.K "tuple"):=ycz (by decide) (by rfl) (by rw [isSubtype_type];kernel_rfl) yft
def rStr (K:PySem.W.Frag):List V→Hp→VK→Prop:=fun vs H Q=>∃x:V,vs=[x]∧((∃i:Int,x = .int i∧i.natAbs.log2<1920)∨(∃(a:Addr) (d:PyData),x = .ref a∧RdN K H 10 (.ref a) d∧DOk d (2^20)))∧∀z:Str,Q (.str z) H
theorem zex (hg:X.A.guards=some []) (hu:X.A.units+64<cLine):zbk X (.type "str") (rStr X.K):=by
  intro pins s σ H vs us Q I r h
  obtain ⟨x,rfl,hx,q⟩:=h
  obtain ⟨u,rfl,rx⟩:=zcg r
  rcases hx with ⟨i,rfl,hi⟩ | ⟨a,d,rfl,hd,ok⟩
  · obtain ⟨t,rfl⟩:=rx
    exact P.str_of_int hi ⟨.str _,H,I.tok _,⟨_,rfl⟩,q _⟩
  · cases rx
    have R:=zes I 10 (.ref a) d (.ref a) hd rfl
    refine str_of_reads R ok.sh (PyData.noDict_hsm ok.nd) hg (by have:=ok.dp;omega) (fun _ _ e=>e) (fun h' u tk hk=>?_) (PyData.shown_fits (B:=8) (by decide) (by decide) ok.sl ok.we)
    exact ⟨.str _,H,I.kept (fun b o e=>hk b o e),⟨u,rfl⟩,q _⟩
theorem zcS:bootBuiltins "str"=some (.type "str"):=by decide +kernel
theorem zew {K:PySem.W.Frag} (h:X.K=K):SlR X (rSlA K):=h ▸ ydf
theorem yeo {K:PySem.W.Frag} (h:X.K=K):OpR X (binaryOp .Add) (ygO K):=h ▸ zcF
end
end L2
end
section
-- text: P1
namespace My
open PySem L2 Dg
def top (i:Nat):Stmt:=PySem.Challenge.pw_roundwords_k46_lost_shown.main.body.getD i (.Pass ⟨0,0,0,0⟩)
abbrev zbm:Stmt:=top 1
abbrev yaK:Stmt:=top 2
abbrev zaX:Stmt:=top 7
abbrev yc4:Stmt:=top 8
abbrev zaV:Stmt:=top 9
abbrev yb1:Stmt:=top 10
abbrev ycf:Stmt:=top 11
abbrev zaJ:Stmt:=top 12
abbrev zci:Stmt:=top 13
abbrev ybm:Stmt:=top 14
abbrev ybo:Stmt:=top 16
abbrev yck:Stmt:=top 18
abbrev yb4:Stmt:=top 20
abbrev zaS:Stmt:=top 22
abbrev ybE:Stmt:=top 23
abbrev ybJ:Stmt:=top 25
abbrev za0:Stmt:=top 27
abbrev yaZ:Stmt:=top 29
abbrev ya9:Stmt:=top 30
abbrev zaU:Stmt:=top 31
abbrev yaV:Stmt:=top 32
abbrev zaW:Stmt:=top 33
abbrev yaJ:Stmt:=top 34
abbrev zaC:Stmt:=top 35
abbrev zaQ:Stmt:=top 36
abbrev yaO:Stmt:=top 37
abbrev ybc:Stmt:=top 38
abbrev za3:Stmt:=top 39
abbrev ya2:Stmt:=top 40
abbrev ya0:Stmt:=top 41
abbrev za4:Stmt:=top 42
abbrev za1:Stmt:=top 43
abbrev za9:Stmt:=top 44
abbrev zaw:Stmt:=top 45
abbrev zba:Stmt:=top 46
abbrev ya1:Stmt:=top 47
abbrev zaD:Stmt:=top 48
abbrev yaQ:Stmt:=top 49
abbrev zaF:Stmt:=top 50
abbrev yat:Stmt:=top 51
abbrev zay:Stmt:=top 52
abbrev yaU:Stmt:=top 53
abbrev zaH:Stmt:=top 54
abbrev yaC:Stmt:=top 55
abbrev ya3:Stmt:=top 56
abbrev zbc:Stmt:=top 57
abbrev zcY:Stmt:=top 58
def ygw:List Str:=["range","len","abs","min","max","all","any","isinstance","int","bool","tuple","list","zip","enumerate","repr","dict","reversed","sorted","sum","set","str"]
abbrev Bl (mg:Str→Option Value):Prop:=∀x∈ygw,mg x=none
def Fld (K:PySem.W.Frag) (H:Hp) (a:Addr) (p m t:Nat):Prop:=SqT K H a [.int p,.int m,.int t]
theorem Same.tup {K:PySem.W.Frag} {H H':Hp} {a:Addr} {xs:List V} (e:Same H H') (h:SqT K H a xs):SqT K H' a xs:=by
  rcases h with (h | ⟨o,h⟩)|h
  · exact .inl (.inl (e _ _ h))
  · exact .inl (.inr ⟨o,e _ _ h⟩)
  · exact .inr h
def mI (σ:St) (i:Nat):Nat:=match σ[i]? with
  | some (some (.int n))=>n.toNat
  | _=>0
local macro_rules | `(tactic| walk_at "rd") => `(tactic| repeat (first | refine ⟨_, rfl, ?_⟩ | refine ⟨_, _, rfl, rfl, ?_⟩))
theorem ze1 {t u:TT} {σ:St} {H:Hp} {Q:Bool→Hp→Prop} {b1 b2:Bool} (h1:∀Q:Bool→Hp→Prop,Q b1 H→t σ H Q) (h2:∀Q:Bool→Hp→Prop,Q b2 H→u σ H Q) (q:Q (b1||b2) H):tOr t u σ H Q:=by
  refine h1 _ ?_
  cases b1
  · exact h2 _ q
  · exact q
theorem zgC {t u:TT} {σ:St} {H:Hp} {Q:Bool→Hp→Prop} {b1 b2:Bool} (h1:∀Q:Bool→Hp→Prop,Q b1 H→t σ H Q) (h2:b1=true→∀Q:Bool→Hp→Prop,Q b2 H→u σ H Q) (q:Q (b1&&b2) H):tAnd t u σ H Q:=by
  refine h1 _ ?_
  cases b1
  · exact q
  · exact h2 rfl _ q
theorem ygi {X:Cx} {st:Stmt}:PS X st (fun _ _ _=>False):=fun _ _ _ _ _ _ h=>h.elim
section
variable {P:Program} {w:World} {K:PySem.W.Frag} {mg:Str→Option Value} {base:Heap} {f:Addr} {fd:FuncData}
def ydn (K:PySem.W.Frag):Sp:=fun vs H Q _=>∃(a:Addr) (p m t x y:Nat),vs=[.ref a,.int x,.int y]∧Fld K H a p m t∧2≤p∧p≤64∧∀r:Nat,(∀i,dg p i r=(dg p i x+dg p i y)%p)→Q (.int r) H
theorem zbW:yaj ["field","one","other","p","total","unit"] ["field","one","other"] (zad yc4):=⟨rfl,rfl,rfl,by decide +kernel,rfl,by decide +kernel,by decide +kernel⟩
theorem zgX (B:Bl mg) (F:Fun K "plus" "plus" yc4 f fd):FnOk P w K mg base CX0 1 f fd ["field","one","other"] (ydn K):=by
  refine F.ok zbW (fun vs H Q E h=>?_) (fun cdv A outer s H vs Q E hr h=>?_)
  · obtain ⟨a,p,m,t,x,y,rfl,_⟩:=h;rfl
  obtain ⟨a,p,m,t,x,y,rfl,hF,hp,hp2,q⟩:=h
  refine ⟨_,(@yab _ _ _ _ _ (@zag _ _ 3 _ _ _ _ zbW.nd rfl (Or.inl rfl) (@zan _ _ _ _ _ _ _ yas (pv 0) yac (fun _ _=>rfl)) (by rfl) (by trivial)) (@yab _ _ _ _ _ (@zag _ _ 4 _ _ _ _ zbW.nd rfl (Or.inl rfl) yac (by rfl) (by trivial)) (@yab _ _ _ _ _ (@zag _ _ 5 _ _ _ _ zbW.nd rfl (Or.inl rfl) yac (by rfl) (by trivial)) (@yab _ _ _ _ _ (@zaT _ _ _ _ _ _ PassesOwn.never (@PW.pt _ _ _ (@yd4 _ _ _ _ _ _ _ (@zai _ _ _ _ _ _ _ _ ycb (pv 1) yac (yal _)) (@zcJ _ _ _ _ (@zai _ _ _ _ _ _ _ _ ycb (pv 2) yac (yal _))))) (@yab _ _ _ _ _ (@zbS _ _ 4 _ _ _ _ _ _ zbW.nd rfl (Or.inl rfl) (@yaf _ _ _ _ _ _ _ _ yaX (@yaf _ _ _ _ _ _ _ _ zaz (@yaf _ _ _ _ _ _ _ _ yar (pv 1) (pv 2)) (pv 3)) (pv 5)) zd0 (by trivial)) (@yab _ _ _ _ _ (@zbS _ _ 1 _ _ _ _ _ _ zbW.nd rfl (Or.inl rfl) (pv 3) ycR (by trivial)) (@yab _ _ _ _ _ (@zbS _ _ 2 _ _ _ _ _ _ zbW.nd rfl (Or.inl rfl) (pv 3) ycR (by trivial)) (@zae _ _ _ (@zbS _ _ 5 _ _ _ _ _ _ zbW.nd rfl (Or.inl rfl) (pv 3) zd8 (by trivial))))))) (@zae _ _ _ (@zal _ _ _ _ (pv 4))))))),?_⟩
  refine ⟨_,rfl,a,_,_,_,rfl,rfl,hF,rfl,?_⟩
  refine yaW (fun σ H'=>H'=H∧∃(k o u tt:Nat),σ=[some (.ref a),some (.int o),some (.int u),some (.int p),some (.int tt),some (.int ((p^k:Nat):Int))]∧o=x/p^k∧u=y/p^k∧tt<p^k∧∀i,i<k→dg p i tt=(dg p i x+dg p i y)%p)
    (fun σ _=>mI σ 1+mI σ 2) ⟨rfl,0,x,y,0,rfl,by simp,by simp,by simp,fun i hi=>absurd hi (Nat.not_lt_zero _)⟩ ?_
  rintro σ H' ⟨rfl,k,o,u,tt,rfl,ho,hu,ht,hd⟩
  have pk:0<p^k:=Nat.pow_pos (by omega)
  refine ze1 (b1:=decide ((0:Int)<o)) (b2:=decide ((0:Int)<u)) (fun Q q=>⟨_,rfl,_,_,rfl,rfl,_,rfl,q⟩) (fun Q q=>⟨_,rfl,_,_,rfl,rfl,_,rfl,q⟩) ?_
  refine ite2 (fun c=>?_) (fun c=>?_)
  · simp only [Bool.or_eq_true,decide_eq_true_eq] at c
    refine ⟨fun σ' H''=>H''=H'∧σ'=[some (.ref a),some (.int ((o/p:Nat):Int)),some (.int ((u/p:Nat):Int)),some (.int p),some (.int ((tt+(o+u)%p*p^k:Nat):Int)),some (.int ((p^k*p:Nat):Int))],?_,?_⟩
    · rintro σ' H'' ⟨rfl,rfl⟩
      have l1:o/p≤o:=Nat.div_le_self _ _
      have l2:u/p≤u:=Nat.div_le_self _ _
      have l3:o/p<o∨u/p<u:=by
        rcases c with c|c
        · exact .inl (Nat.div_lt_self (by omega) (by omega))
        · exact .inr (Nat.div_lt_self (by omega) (by omega))
      refine ⟨_,?_,rfl,rfl,k+1,o/p,u/p,tt+(o+u)%p*p^k,rfl,?_,?_,?_,fun i hi=>?_⟩
      · show o/p+u/p<o+u;omega
      · rw [ho,Nat.pow_succ,Nat.div_div_eq_div_mul]
      · rw [hu,Nat.pow_succ,Nat.div_div_eq_div_mul]
      · exact yeU ht (Nat.mod_lt _ (by omega))
      · rw [yfw hp ht (Nat.mod_lt _ (by omega))]
        by_cases e:i=k
        · rw [if_pos e,ho,hu,e];unfold dg;rw [Nat.add_mod]
        · rw [if_neg e];exact hd i (by omega)
    · walk_at "rd"
      refine ⟨by show (0:Int)<p;omega,?_⟩
      walk_at "rd"
      have hm:(o+u)%p<p:=Nat.mod_lt _ (by omega)
      refine ⟨.inl ⟨by show -(2^64:Int)<(((o+u)%p:Nat):Int);omega,by show (((o+u)%p:Nat):Int)<2^64;omega⟩,?_⟩
      walk_at "rd"
      refine ⟨⟨by show (0:Int)<p;omega,by show (p:Int)<2^64;omega⟩,?_⟩
      walk_at "rd"
      refine ⟨⟨by show (0:Int)<p;omega,by show (p:Int)<2^64;omega⟩,?_⟩
      walk_at "rd"
      refine ⟨.inr ⟨by show -(2^64:Int)<p;omega,by show (p:Int)<2^64;omega⟩,?_⟩
      exact ⟨rfl,rfl⟩
  · simp only [Bool.or_eq_true,decide_eq_true_eq,not_or] at c
    refine ⟨_,rfl,q tt fun i=>?_⟩
    by_cases e:i<k
    · exact hd i e
    · have hx:x<p^k:=by
        rcases Nat.lt_or_ge x (p^k) with h|h
        · exact h
        · have:=Nat.div_pos h pk;omega
      have hy:y<p^k:=by
        rcases Nat.lt_or_ge y (p^k) with h|h
        · exact h
        · have:=Nat.div_pos h pk;omega
      rw [yax hp ht (by omega),yax hp hx (by omega),yax hp hy (by omega)]
      simp
def ybz (K:PySem.W.Frag):Sp:=fun vs H Q _=>∃(a:Addr) (p m t d x:Nat),vs=[.ref a,.int d,.int x]∧Fld K H a p m t∧2≤p∧p≤64∧d<2^64∧∀r:Nat,(∀i,dg p i r=d*dg p i x%p)→Q (.int r) H
theorem yaB:yaj ["field","digit","one","p","total","unit"] ["field","digit","one"] (zad zaV):=⟨rfl,rfl,rfl,by decide +kernel,rfl,by decide +kernel,by decide +kernel⟩
theorem zcZ (B:Bl mg) (F:Fun K "digit_times" "digit_times" zaV f fd):FnOk P w K mg base CX0 1 f fd ["field","digit","one"] (ybz K):=by
  refine F.ok yaB (fun vs H Q E h=>?_) (fun cdv A outer s H vs Q E hr h=>?_)
  · obtain ⟨a,p,m,t,x,y,rfl,_⟩:=h;rfl
  obtain ⟨a,p,m,t,d,x,rfl,hF,hp,hp2,hd2,q⟩:=h
  refine ⟨_,(@yab _ _ _ _ _ (@zag _ _ 3 _ _ _ _ yaB.nd rfl (Or.inl rfl) (@zan _ _ _ _ _ _ _ yas (pv 0) yac (fun _ _=>rfl)) (by rfl) (by trivial)) (@yab _ _ _ _ _ (@zag _ _ 4 _ _ _ _ yaB.nd rfl (Or.inl rfl) yac (by rfl) (by trivial)) (@yab _ _ _ _ _ (@zag _ _ 5 _ _ _ _ yaB.nd rfl (Or.inl rfl) yac (by rfl) (by trivial)) (@yab _ _ _ _ _ (@zaT _ _ _ _ _ _ PassesOwn.never (@zai _ _ _ _ _ _ _ _ ycb (pv 2) yac (yal _)) (@yab _ _ _ _ _ (@zbS _ _ 4 _ _ _ _ _ _ yaB.nd rfl (Or.inl rfl) (@yaf _ _ _ _ _ _ _ _ yaX (@yaf _ _ _ _ _ _ _ _ zaz (@yaf _ _ _ _ _ _ _ _ yaX (pv 1) (pv 2)) (pv 3)) (pv 5)) zd0 (by trivial)) (@yab _ _ _ _ _ (@zbS _ _ 2 _ _ _ _ _ _ yaB.nd rfl (Or.inl rfl) (pv 3) ycR (by trivial)) (@zae _ _ _ (@zbS _ _ 5 _ _ _ _ _ _ yaB.nd rfl (Or.inl rfl) (pv 3) zd8 (by trivial)))))) (@zae _ _ _ (@zal _ _ _ _ (pv 4))))))),?_⟩
  refine ⟨_,rfl,a,_,_,_,rfl,rfl,hF,rfl,?_⟩
  refine yaW (fun σ H'=>H'=H∧∃(k o tt:Nat),σ=[some (.ref a),some (.int d),some (.int o),some (.int p),some (.int tt),some (.int ((p^k:Nat):Int))]∧o=x/p^k∧tt<p^k∧∀i,i<k→dg p i tt=d*dg p i x%p)
    (fun σ _=>mI σ 2) ⟨rfl,0,x,0,rfl,by simp,by simp,fun i hi=>absurd hi (Nat.not_lt_zero _)⟩ ?_
  rintro σ H' ⟨rfl,k,o,tt,rfl,ho,ht,hd⟩
  have pk:0<p^k:=Nat.pow_pos (by omega)
  walk_at "rd"
  refine ite2 (fun c=>?_) (fun c=>?_)
  · have c':0<o:=by have:=of_decide_eq_true c;omega
    refine ⟨fun σ' H''=>H''=H'∧σ'=[some (.ref a),some (.int d),some (.int ((o/p:Nat):Int)),some (.int p),some (.int ((tt+d*o%p*p^k:Nat):Int)),some (.int ((p^k*p:Nat):Int))],?_,?_⟩
    · rintro σ' H'' ⟨rfl,rfl⟩
      refine ⟨_,?_,rfl,rfl,k+1,o/p,tt+d*o%p*p^k,rfl,?_,?_,fun i hi=>?_⟩
      · show o/p<o;exact Nat.div_lt_self c' (by omega)
      · rw [ho,Nat.pow_succ,Nat.div_div_eq_div_mul]
      · exact yeU ht (Nat.mod_lt _ (by omega))
      · rw [yfw hp ht (Nat.mod_lt _ (by omega))]
        by_cases e:i=k
        · rw [if_pos e,ho,e];unfold dg;rw [Nat.mul_mod_mod]
        · rw [if_neg e];exact hd i (by omega)
    · have hm:d*o%p<p:=Nat.mod_lt _ (by omega)
      walk_at "rd"
      refine ⟨.inl ⟨by show -(2^64:Int)<(d:Int);omega,by show (d:Int)<2^64;omega⟩,?_⟩
      walk_at "rd"
      refine ⟨by show (0:Int)<p;omega,?_⟩
      walk_at "rd"
      refine ⟨.inl ⟨by show -(2^64:Int)<((d*o%p:Nat):Int);omega,by show ((d*o%p:Nat):Int)<2^64;omega⟩,?_⟩
      walk_at "rd"
      refine ⟨⟨by show (0:Int)<p;omega,by show (p:Int)<2^64;omega⟩,?_⟩
      walk_at "rd"
      refine ⟨.inr ⟨by show -(2^64:Int)<p;omega,by show (p:Int)<2^64;omega⟩,?_⟩
      exact ⟨rfl,rfl⟩
  · have c':o=0:=by have:=of_decide_eq_false (Bool.eq_false_iff.mpr c);omega
    refine ⟨_,rfl,q tt fun i=>?_⟩
    by_cases e:i<k
    · exact hd i e
    · have hx:x<p^k:=by
        rcases Nat.lt_or_ge x (p^k) with h|h
        · exact h
        · have:=Nat.div_pos h pk;omega
      rw [yax hp ht (by omega),yax hp hx (by omega)]
      simp
def zap:Sp:=fun vs H Q _=>∃(b k:Nat),vs=[.int b,.int k]∧b≤64∧k≤1000∧Q (.int ((b^k:Nat):Int)) H
theorem ya5:yaj ["base","many","product","step"] ["base","many"] (zad yaK):=⟨rfl,rfl,rfl,by decide +kernel,rfl,by decide +kernel,by decide +kernel⟩
theorem zcO (B:Bl mg) (F:Fun K "number_power" "number_power" yaK f fd):FnOk P w K mg base CX0 1 f fd ["base","many"] zap:=by
  refine F.ok ya5 (fun vs H Q E h=>?_) (fun cdv A outer s H vs Q E hr h=>?_)
  · obtain ⟨b,k,rfl,_⟩:=h;rfl
  obtain ⟨b,k,rfl,hb,hk,q⟩:=h
  refine ⟨_,(@yab _ _ _ _ _ (@zag _ _ 2 _ _ _ _ ya5.nd rfl (Or.inl rfl) yac (by rfl) (by trivial)) (@yab _ _ _ _ _ (@yaD _ _ _ _ _ _ _ _ PassesOwn.never rfl (@yau _ _ _ _ _ _ rfl (B "range" (by decide)) (@zaa _ _ _ _ _ (pv 1) yaa (by rfl)) (by rfl)) (@yae _ _ 3 _ ya5.nd rfl (Or.inl rfl) (by trivial)) (@zae _ _ _ (@zbS _ _ 2 _ _ _ _ _ _ ya5.nd rfl (Or.inl rfl) (pv 0) zd8 (by trivial))) (by intro _;rfl)) (@zae _ _ _ (@zal _ _ _ _ (pv 2))))),?_⟩
  refine ⟨_,rfl,k,rfl,by omega,by omega,yaI (n:=k) (fun i σ H'=>H'=H∧∃s,σ=[some (.int b),some (.int k),some (.int ((b^i:Nat):Int)),s]) ⟨rfl,none,rfl⟩ ?_ ?_⟩
  · rintro i σ H' hi ⟨rfl,s,rfl⟩
    walk_at "rd"
    refine ⟨.inr ⟨by omega,by omega⟩,rfl,some (.int (0+(i:Int))),?_⟩
    rw [Nat.pow_succ];rfl
  · rintro σ H' ⟨rfl,s,rfl⟩
    exact ⟨_,rfl,q⟩
theorem ybN {i j:Int} (h:i=j):V.int i=V.int j:=congrArg V.int h
def ydP (K:PySem.W.Frag):Sp:=fun vs H Q _=>∃(a:Addr) (p m t x:Nat),vs=[.ref a,.int x]∧Fld K H a p m t∧2≤p∧1≤m∧p^m≤64∧t<p^m∧x<p^m∧∀r:Nat,(∀i,dg p i r=zaL m (fun i=>dg p i t) (fun i=>dg p i x) i%p)→Q (.int r) H
theorem p_le {p m:Nat} (hp:2≤p) (hm:1≤m) (h:p^m≤64):p≤64:=Nat.le_trans (by simpa using Nat.pow_le_pow_right (n:=p) (by omega) hm) h
theorem m_le {p m:Nat} (hp:2≤p) (h:p^m≤64):m≤6:=by
  rcases Nat.lt_or_ge 6 m with h1|h1
  · have:=Nat.pow_le_pow_left hp m
    have:=Nat.pow_le_pow_right (n:=2) (by omega) h1
    omega
  · exact h1
theorem ybD:yaj ["field","one","p","m","top","last_unit","moved"] ["field","one"] (zad yb1):=⟨rfl,rfl,rfl,by decide +kernel,rfl,by decide +kernel,by decide +kernel⟩
theorem yfi (B:Bl mg) (h_plus:Has P w K mg base 1 "plus" ["field","one","other"] (ydn K)) (h_digit_times:Has P w K mg base 1 "digit_times" ["field","digit","one"] (ybz K)) (h_number_power:Has P w K mg base 1 "number_power" ["base","many"] zap) (F:Fun K "lifted" "lifted" yb1 f fd):FnOk P w K mg base CX0 2 f fd ["field","one"] (ydP K):=by
  refine F.ok ybD (fun vs H Q E h=>?_) (fun cdv A outer s H vs Q E hr h=>?_)
  · obtain ⟨a,p,m,t,x,rfl,_⟩:=h;rfl
  obtain ⟨a,p,m,t,x,rfl,hF,hp,hm,hpm,ht,hx,q⟩:=h
  have hp2:=p_le hp hm hpm
  have hm6:=m_le hp hpm
  refine ⟨_,(@yab _ _ _ _ _ (@za6 _ _ _ _ _ _ (pv 0) (@ya8 _ _ _ _ _ _ rfl (@zah _ _ _ _ _ (@yae _ _ 2 _ ybD.nd rfl (Or.inl rfl) (by trivial)) (@zah _ _ _ _ _ (@yae _ _ 3 _ ybD.nd rfl (Or.inl rfl) (by trivial)) (@zah _ _ _ _ _ (@yae _ _ 4 _ ybD.nd rfl (Or.inl rfl) (by trivial)) yaH (by rfl)) (by rfl)) (by rfl)) (by rfl) (by rfl)) (by rfl) (by rfl) (by rfl)) (@yab _ _ _ _ _ (@zag _ _ 5 _ _ _ _ ybD.nd rfl (Or.inl rfl) (@yad _ _ _ _ _ _ _ _ _ _ _ h_number_power hr (by decide) rfl (@zaa _ _ _ _ _ (pv 2) (@zaa _ _ _ _ _ (@yaf _ _ _ _ _ _ _ _ ybq (pv 3) yac) yaa (by rfl)) (by rfl)) (by decide) (by rfl) (by rfl)) (by rfl) (by trivial)) (@yab _ _ _ _ _ (@zag _ _ 6 _ _ _ _ ybD.nd rfl (Or.inl rfl) (@yaf _ _ _ _ _ _ _ _ yaX (@yaf _ _ _ _ _ _ _ _ zaz (pv 1) (pv 5)) (pv 2)) (by rfl) (by trivial)) (@zae _ _ _ (@zal _ _ _ _ (@yad _ _ _ _ _ _ _ _ _ _ _ h_plus hr (by decide) rfl (@zaa _ _ _ _ _ (pv 0) (@zaa _ _ _ _ _ (pv 6) (@zaa _ _ _ _ _ (@yad _ _ _ _ _ _ _ _ _ _ _ h_digit_times hr (by decide) rfl (@zaa _ _ _ _ _ (pv 0) (@zaa _ _ _ _ _ (@yaf _ _ _ _ _ _ _ _ ycq (pv 1) (pv 5)) (@zaa _ _ _ _ _ (pv 4) yaa (by rfl)) (by rfl)) (by rfl)) (by decide) (by rfl) (by rfl)) yaa (by rfl)) (by rfl)) (by rfl)) (by decide) (by rfl) (by rfl))))))),?_⟩
  refine ⟨_,rfl,a,_,rfl,hF,rfl,_,_,rfl,_,_,rfl,_,_,rfl,rfl,?_⟩
  walk_at "rd"
  refine ⟨p,m-1,by dsimp only;rw [show ((m:Nat):Int)-1=((m-1:Nat):Int) by omega];rfl,hp2,by omega,?_⟩
  have hl:p^(m-1)≤64:=Nat.le_trans (Nat.pow_le_pow_right (by omega) (by omega)) hpm
  have hl0:0<p^(m-1):=Nat.pow_pos (by omega)
  walk_at "rd"
  refine ⟨by show (0:Int)<((p^(m-1):Nat):Int);omega,?_⟩
  walk_at "rd"
  refine ⟨.inr ⟨by show -(2^64:Int)<(p:Int);omega,by show (p:Int)<2^64;omega⟩,?_⟩
  walk_at "rd"
  refine ⟨⟨by show (0:Int)<((p^(m-1):Nat):Int);omega,by show ((p^(m-1):Nat):Int)<2^64;omega⟩,?_⟩
  walk_at "rd"
  have hdl:=zgF hp hm hx
  have hdl2:=zhb hp (m-1) x
  refine ⟨a,p,m,t,x/p^(m-1),t,rfl,hF,hp,hp2,by omega,fun r1 h1=>?_⟩
  refine ⟨a,p,m,t,x%p^(m-1)*p,r1,rfl,hF,hp,hp2,fun r h2=>q r fun i=>?_⟩
  rw [h2 i,h1 i,zhl hp,yhk hp,hdl,Nat.add_mod_mod]
  unfold zaL zaY
  by_cases hi:i<m
  · rw [if_pos hi]
    by_cases h0:i=0
    · rw [if_pos h0,if_pos h0]
    · rw [if_neg h0,if_neg h0,if_pos (by omega)]
  · rw [if_neg hi,if_neg (by omega),if_neg (by omega),yax hp ht (by omega)]
    simp
def zcv (K:PySem.W.Frag):Sp:=fun vs H Q _=>∃(a:Addr) (p m t x y:Nat),vs=[.ref a,.int x,.int y]∧Fld K H a p m t∧2≤p∧1≤m∧p^m≤64∧t<p^m∧x<p^m∧y<p^m∧
  ∀r:Nat,r<p^m→(∀i,i<m→dg p i r=tn m (fun i=>dg p i t) m (fun i=>dg p i x) (fun i=>dg p i y) i%p)→Q (.int r) H
theorem ybZ:yaj ["field","one","other","p","total"] ["field","one","other"] (zad ycf):=⟨rfl,rfl,rfl,by decide +kernel,rfl,by decide +kernel,by decide +kernel⟩
theorem zf1 (B:Bl mg) (h_plus:Has P w K mg base 1 "plus" ["field","one","other"] (ydn K)) (h_digit_times:Has P w K mg base 1 "digit_times" ["field","digit","one"] (ybz K)) (h_lifted:Has P w K mg base 2 "lifted" ["field","one"] (ydP K)) (F:Fun K "times" "times" ycf f fd):FnOk P w K mg base CX0 3 f fd ["field","one","other"] (zcv K):=by
  refine F.ok ybZ (fun vs H Q E h=>?_) (fun cdv A outer s H vs Q E hr h=>?_)
  · obtain ⟨a,p,m,t,x,y,rfl,_⟩:=h;rfl
  obtain ⟨a,p,m,t,x,y,rfl,hF,hp,hm,hpm,ht,hx,hy,q⟩:=h
  have hp2:=p_le hp hm hpm
  refine ⟨_,(@yab _ _ _ _ _ (@zag _ _ 3 _ _ _ _ ybZ.nd rfl (Or.inl rfl) (@zan _ _ _ _ _ _ _ yas (pv 0) yac (fun _ _=>rfl)) (by rfl) (by trivial)) (@yab _ _ _ _ _ (@zag _ _ 4 _ _ _ _ ybZ.nd rfl (Or.inl rfl) yac (by rfl) (by trivial)) (@yab _ _ _ _ _ (@zaT _ _ _ _ _ _ PassesOwn.never (@zai _ _ _ _ _ _ _ _ ycb (pv 1) yac (yal _)) (@yab _ _ _ _ _ (@zag _ _ 4 _ _ _ _ ybZ.nd rfl (Or.inl rfl) (@yad _ _ _ _ _ _ _ _ _ _ _ h_plus hr (by decide) rfl (@zaa _ _ _ _ _ (pv 0) (@zaa _ _ _ _ _ (pv 4) (@zaa _ _ _ _ _ (@yad _ _ _ _ _ _ _ _ _ _ _ h_digit_times hr (by decide) rfl (@zaa _ _ _ _ _ (pv 0) (@zaa _ _ _ _ _ (@yaf _ _ _ _ _ _ _ _ zaz (pv 1) (pv 3)) (@zaa _ _ _ _ _ (pv 2) yaa (by rfl)) (by rfl)) (by rfl)) (by decide) (by rfl) (by rfl)) yaa (by rfl)) (by rfl)) (by rfl)) (by decide) (by rfl) (by rfl)) (by rfl) (by trivial)) (@yab _ _ _ _ _ (@zbS _ _ 1 _ _ _ _ _ _ ybZ.nd rfl (Or.inl rfl) (pv 3) ycR (by trivial)) (@zae _ _ _ (@yba _ _ _ _ _ _ _ _ (@zai _ _ _ _ _ _ _ _ ycb (pv 1) yac (yal _)) (@zae _ _ _ (@zag _ _ 2 _ _ _ _ ybZ.nd rfl (Or.inl rfl) (@yad _ _ _ _ _ _ _ _ _ _ _ h_lifted hr (by decide) rfl (@zaa _ _ _ _ _ (pv 0) (@zaa _ _ _ _ _ (pv 2) yaa (by rfl)) (by rfl)) (by decide) (by rfl) (by rfl)) (by rfl) (by trivial))) zax))))) (@zae _ _ _ (@zal _ _ _ _ (pv 4)))))),?_⟩
  refine ⟨_,rfl,a,_,_,_,rfl,rfl,hF,rfl,?_⟩
  refine yaW (fun σ H'=>H'=H∧∃(k o u tt:Nat),σ=[some (.ref a),some (.int o),some (.int u),some (.int p),some (.int tt)]∧o<p^k∧u<p^m∧tt<p^m∧
      ∀i,i<m→(dg p i tt+tn m (fun i=>dg p i t) k (fun i=>dg p i o) (fun i=>dg p i u) i)%p=tn m (fun i=>dg p i t) m (fun i=>dg p i x) (fun i=>dg p i y) i%p)
    (fun σ _=>mI σ 1) ⟨rfl,m,x,y,0,rfl,hx,hy,Nat.pow_pos (by omega),fun i _=>by rw [zbt,Nat.zero_add]⟩ ?_
  rintro σ H' ⟨rfl,k,o,u,tt,rfl,ho,hu,htt,hd⟩
  walk_at "rd"
  refine ite2 (fun c=>?_) (fun c=>?_)
  · have c':0<o:=by have:=of_decide_eq_true c;omega
    have hk:k≠0:=fun e=>by rw [e] at ho;simp at ho;omega
    obtain ⟨k,rfl⟩:∃j,k=j+1:=⟨k-1,by omega⟩
    have om:o%p<p:=Nat.mod_lt _ (by omega)
    have ho2:o/p<p^k:=Nat.div_lt_of_lt_mul (by rw [Nat.pow_succ,Nat.mul_comm] at ho;exact ho)
    have ho3:o/p<o:=Nat.div_lt_self c' (by omega)
    refine ⟨fun σ' H''=>H''=H'∧∃(o' u' t':Nat),o'=o/p∧σ'=[some (.ref a),some (.int o'),some (.int u'),some (.int p),some (.int t')]∧u'<p^m∧t'<p^m∧
      ∀i,i<m→(dg p i t'+tn m (fun i=>dg p i t) k (fun i=>dg p i o') (fun i=>dg p i u') i)%p=tn m (fun i=>dg p i t) m (fun i=>dg p i x) (fun i=>dg p i y) i%p,?_,?_⟩
    · rintro σ' H'' ⟨rfl,o',u',t',rfl,rfl,b1,b2,b3⟩
      exact ⟨_,by show o/p<o;exact ho3,rfl,rfl,k,o/p,u',t',rfl,ho2,b1,b2,b3⟩
    walk_at "rd"
    refine ⟨by show (0:Int)<p;omega,?_⟩
    walk_at "rd"
    refine ⟨a,p,m,t,o%p,u,rfl,hF,hp,hp2,by omega,fun r1 h1=>?_⟩
    refine ⟨a,p,m,t,tt,r1,rfl,hF,hp,hp2,fun r2 h2=>?_⟩
    have hr2:r2<p^m:=zcm hp fun i hi=>by rw [h2 i,h1 i,yax hp htt hi,yax hp hu hi];simp
    have hd2:∀i,i<m→(dg p i r2+tn m (fun i=>dg p i t) k (fun i=>dg p i (o/p)) (zaL m (fun i=>dg p i t) fun i=>dg p i u) i)%p=tn m (fun i=>dg p i t) m (fun i=>dg p i x) (fun i=>dg p i y) i%p:=fun i hi=>by
      rw [←hd i hi,h2 i,h1 i]
      show _=(dg p i tt+(dg p 0 o*dg p i u+tn m (fun i=>dg p i t) k (fun j=>dg p (j+1) o) (zaL m (fun i=>dg p i t) fun i=>dg p i u) i))%p
      rw [zcP,zbw,←Nat.add_assoc]
      refine ybH ?_ rfl
      rw [Nat.mod_mod]
      exact ybH rfl (Nat.mod_mod _ _)
    walk_at "rd"
    refine ⟨⟨by show (0:Int)<p;omega,by show (p:Int)<2^64;omega⟩,?_⟩
    walk_at "rd"
    refine ite2 (fun c2=>?_) (fun c2=>?_)
    · walk_at "rd"
      refine ⟨a,p,m,t,u,rfl,hF,hp,hm,hpm,ht,hu,fun r3 h3=>?_⟩
      have hr3:r3<p^m:=zcm hp fun i hi=>by rw [h3 i];unfold zaL;rw [if_neg (by omega)];simp
      refine ⟨rfl,o/p,r3,r2,rfl,rfl,hr3,hr2,fun i hi=>?_⟩
      rw [←hd2 i hi]
      exact ybH rfl (ybu hm k _ _ _ (fun j _=>by rw [h3 j,Nat.mod_mod]) i hi)
    · have c3:o/p=0:=by have:=of_decide_eq_false (Bool.eq_false_iff.mpr c2);exact Nat.le_zero.mp (Int.ofNat_le.mp (show ((o/p:Nat):Int)≤((0:Nat):Int) from Int.not_lt.mp this))
      refine ⟨rfl,o/p,u,r2,rfl,rfl,hu,hr2,fun i hi=>?_⟩
      rw [←hd2 i hi,c3,ycl k _ _ i (fun j=>zbt p j),ycl k _ _ i (fun j=>zbt p j)]
  · have c':o=0:=by have:=of_decide_eq_false (Bool.eq_false_iff.mpr c);omega
    refine ⟨_,rfl,q tt htt fun i hi=>?_⟩
    rw [←hd i hi,c',ycl k _ _ i (fun j=>zbt p j),Nat.add_zero,ydT]
end
end My
end
section
-- text: P2
namespace My
open PySem L2 Dg
local macro_rules | `(tactic| walk_at "rd") => `(tactic| repeat (first | refine ⟨_, rfl, ?_⟩ | refine ⟨_, _, rfl, rfl, ?_⟩))
theorem zac {H:Hp} {p:Addr} (h:H p=none) (o:HO):Same H (upd H p o):=fun b u q=>by rw [yag (zaf q h)];exact q
abbrev Vn (n:Nat):V:=.int (n:Int)
def Pu (H:Hp) (a g:Addr):Prop:=∃(ns:List Nat) (s t:Nat),H a=some (.lst [.ref g,Vn s,Vn t])∧H g=some (.lst (ns.map Vn))
theorem Pu.ne {H:Hp} {a g:Addr} (h:Pu H a g):a≠g:=by
  obtain ⟨ns,s,t,h1,h2⟩:=h
  intro e;subst e;rw [h1] at h2
  have h3:=HO.lst.inj (Option.some.inj h2)
  cases ns with
  | nil=>cases h3
  | cons n ns=>cases h3
def yan (a g:Addr) (H H':Hp):Prop:=∀b o,b≠a→b≠g→H b=some o→H' b=some o
theorem yan.refl {a g:Addr} {H:Hp}:yan a g H H:=fun _ _ _ _ e=>e
theorem yan.trans {a g:Addr} {H H1 H2:Hp} (h1:yan a g H H1) (h2:yan a g H1 H2):yan a g H H2:=fun b o n1 n2 e=>h2 b o n1 n2 (h1 b o n1 n2 e)
theorem Same.x {a g:Addr} {H H1:Hp} (h:Same H H1):yan a g H H1:=fun b o _ _ e=>h b o e
theorem Pu.same {H H':Hp} {a g:Addr} (h:Pu H a g) (s:Same H H'):Pu H' a g:=by
  obtain ⟨ns,x,t,h1,h2⟩:=h
  exact ⟨ns,x,t,s _ _ h1,s _ _ h2⟩
theorem szl (n:Nat) (h:n≤100000:=by omega):n≤sizeLine:=by rw [sizeLine_eq];omega
section
variable {P:Program} {w:World} {K:PySem.W.Frag} {mg:Str→Option Value} {base:Heap} {f:Addr} {fd:FuncData}
theorem ybe:yaj ["_law_one","_law_many","_law_found","_law_turn"] ["_law_one","_law_many"] (zad zaU):=⟨rfl,rfl,rfl,by decide +kernel,rfl,by decide +kernel,by decide +kernel⟩
theorem yeV (B:Bl mg) (F:Fun K "_law_raised" "_law_raised" zaU f fd):FnOk P w K mg base CX0 1 f fd ["_law_one","_law_many"] zap:=by
  refine F.ok ybe (fun vs H Q E h=>?_) (fun cdv A outer s H vs Q E hr h=>?_)
  · obtain ⟨b,k,rfl,_⟩:=h;rfl
  obtain ⟨b,k,rfl,hb,hk,q⟩:=h
  refine ⟨_,(yab (@zag _ _ 2 _ _ _ _ ybe.nd rfl (Or.inl rfl) yac (by rfl) (by trivial)) (yab (@yaD _ _ _ _ _ _ _ _ PassesOwn.never rfl (@yau _ _ _ _ _ _ rfl (B "range" (by decide)) (zaa (pv 1) yaa (by rfl)) (by rfl)) (@yae _ _ 3 _ ybe.nd rfl (Or.inl rfl) (by trivial)) (zae (@zag _ _ 2 _ _ _ _ ybe.nd rfl (Or.inl rfl) (yaf yaX (pv 2) (pv 0)) (by rfl) (by trivial))) (by intro _;rfl)) (zae (@zal _ _ _ _ (pv 2))))),?_⟩
  refine ⟨_,rfl,k,rfl,by omega,by omega,yaI (n:=k) (fun i σ H'=>H'=H∧∃s,σ=[some (.int b),some (.int k),some (.int ((b^i:Nat):Int)),s]) ⟨rfl,none,rfl⟩ ?_ ?_⟩
  · rintro i σ H' hi ⟨rfl,s,rfl⟩
    walk_at "rd"
    refine ⟨.inr ⟨by omega,by omega⟩,rfl,some (.int (0+(i:Int))),?_⟩
    rw [Nat.pow_succ];rfl
  · rintro σ H' ⟨rfl,s,rfl⟩
    exact ⟨_,rfl,q⟩
def digL (p m x:Nat):List V:=(List.range m).map fun i=>Vn (dg p i x)
theorem yfC (p m x:Nat):digL p (m+1) x=digL p m x++[Vn (dg p m x)]:=by unfold digL;rw [List.range_succ,List.map_append];rfl
theorem zbO (p m x:Nat):(digL p m x).length=m:=by simp [digL]
def zdM (K:PySem.W.Frag):Sp:=fun vs H Q _=>∃(a:Addr) (p m t x:Nat),vs=[.ref a,.int x]∧Fld K H a p m t∧2≤p∧p≤64∧m≤64∧∀r H',H r=none→Same H H'→H' r=some (.lst (digL p m x))→Q (.ref r) H'
theorem zbf:yaj ["_law_field_here","_law_thing","_law_found","_law_k"] ["_law_field_here","_law_thing"] (zad yaV):=⟨rfl,rfl,rfl,by decide +kernel,rfl,by decide +kernel,by decide +kernel⟩
theorem ye3 (B:Bl mg) (F:Fun K "_law_digits" "_law_digits" yaV f fd):FnOk P w K mg base CX0 1 f fd ["_law_field_here","_law_thing"] (zdM K):=by
  refine F.ok zbf (fun vs H Q E h=>?_) (fun cdv A outer s H vs Q E hr h=>?_)
  · obtain ⟨a,p,m,t,x,rfl,_⟩:=h;rfl
  obtain ⟨a,p,m,t,x,rfl,hF,hp,hp2,hm,q⟩:=h
  refine ⟨_,(yab (@zag _ _ 2 _ _ _ _ zbf.nd rfl (Or.inl rfl) (@zaE _ _ _ _ yaa) (by rfl) (by trivial)) (yab (@yaD _ _ _ _ _ _ _ _ PassesOwn.never rfl (@yau _ _ _ _ _ _ rfl (B "range" (by decide)) (zaa (zan yas (pv 0) yac (fun _ _=>rfl)) yaa (by rfl)) (by rfl)) (@yae _ _ 3 _ zbf.nd rfl (Or.inl rfl) (by trivial)) (yab (@ybV _ _ _ _ (@zcG _ _ _ _ _ _ _ _ _ _ _ _ PySem.F.plainAttrs_list PySem.F.slot_list_append PySem.F.type_list_append ybp (pv 2) (zaa (yaf zaz (pv 1) (zan yas (pv 0) yac (fun _ _=>rfl))) yaa (by rfl)) (by rfl) (by rfl) (by rfl) (by rfl) (by rfl)) (by rfl)) (zae (@zag _ _ 1 _ _ _ _ zbf.nd rfl (Or.inl rfl) (yaf ycq (pv 1) (zan yas (pv 0) yac (fun _ _=>rfl))) (by rfl) (by trivial)))) (by intro _;rfl)) (zae (@zal _ _ _ _ (pv 2))))),?_⟩
  refine ⟨szl 0,fun l hl=>?_⟩
  have g1:Same H (upd H l (.lst [])):=zac hl _
  refine ⟨_,rfl,a,_,_,_,rfl,rfl,Same.tup g1 hF,rfl,m,rfl,by omega,by omega,yaI (n:=m) (fun i σ H'=>H'=upd H l (.lst (digL p i x))∧∃s,σ=[some (.ref a),some (.int ((x/p^i:Nat):Int)),some (.ref l),s]) ⟨rfl,none,by simp;rfl⟩ ?_ ?_⟩
  · rintro i σ H' hi ⟨rfl,s,rfl⟩
    have g2:Same H (upd H l (.lst (digL p i x))):=zac hl _
    refine ⟨_,rfl,.inl ⟨rfl,_,SqL.of zab⟩,?_⟩
    walk_at "rd"
    refine ⟨a,_,_,_,rfl,rfl,Same.tup g2 hF,rfl,?_⟩
    walk_at "rd"
    refine ⟨by show (0:Int)<p;omega,l,_,_,rfl,rfl,zab,by rw [zbO];exact Nat.lt_of_le_of_lt (show i≤1000 by omega) (zam (Nat.le_refl _)),?_⟩
    rw [zd6]
    have g3:Same H (upd H l (.lst (digL p (i+1) x))):=zac hl _
    have e1:digL p i x++[V.int (((x/p^i:Nat):Int)%(p:Int))]=digL p (i+1) x:=by rw [yfC];rfl
    rw [e1]
    refine ⟨_,rfl,_,rfl,a,_,_,_,rfl,rfl,Same.tup g3 hF,rfl,?_⟩
    walk_at "rd"
    refine ⟨⟨by show (0:Int)<p;omega,by show (p:Int)<2^64;omega⟩,rfl,some (.int (0+(i:Int))),?_⟩
    rw [Nat.pow_succ,←Nat.div_div_eq_div_mul];rfl
  · rintro σ H' ⟨rfl,s,rfl⟩
    exact ⟨_,rfl,q l _ hl (zac hl _) zab⟩
def num (p:Nat):List Nat→Nat
  | []=>0
  | d::ds=>num p ds*p+d
theorem zfd {p:Nat} (hp:2≤p):∀(ds:List Nat),(∀d∈ds,d<p)→∀i,dg p i (num p ds)=ds.getD i 0
  | [],_,i=>by simp [num,zbt]
  | d::ds,h,i=>by
    have hd:d<p:=h d List.mem_cons_self
    have ih:=zfd hp ds fun x hx=>h x (List.mem_cons_of_mem _ hx)
    cases i with
    | zero=>rw [zbw];show (num p ds*p+d)%p=d;rw [Nat.mul_comm,Nat.mul_add_mod,Nat.mod_eq_of_lt hd]
    | succ i =>
      rw [zbI]
      show dg p i ((num p ds*p+d)/p)=ds.getD i 0
      rw [Nat.mul_comm,Nat.mul_add_div (by omega),Nat.div_eq_of_lt hd,Nat.add_zero]
      exact ih i
def ydw (K:PySem.W.Frag):Sp:=fun vs H Q _=>∃(a b:Addr) (p m t:Nat) (ds:List Nat),vs=[.ref a,.ref b]∧Fld K H a p m t∧2≤p∧p≤64∧SqL K H b (ds.map Vn)∧∀H',Same H H'→Q (Vn (num p ds)) H'
theorem zbe:yaj ["_law_field_here","_law_digits_here","_law_found","_law_digit"] ["_law_field_here","_law_digits_here"] (zad zaW):=⟨rfl,rfl,rfl,by decide +kernel,rfl,by decide +kernel,by decide +kernel⟩
theorem zfb (B:Bl mg) (F:Fun K "_law_number" "_law_number" zaW f fd):FnOk P w K mg base CX0 1 f fd ["_law_field_here","_law_digits_here"] (ydw K):=by
  refine F.ok zbe (fun vs H Q E h=>?_) (fun cdv A outer s H vs Q E hr h=>?_)
  · obtain ⟨a,b,p,m,t,ds,rfl,_⟩:=h;rfl
  obtain ⟨a,b,p,m,t,ds,rfl,hF,hp,hp2,hb,q⟩:=h
  refine ⟨_,(yab (@zag _ _ 2 _ _ _ _ zbe.nd rfl (Or.inl rfl) yac (by rfl) (by trivial)) (yab (@yaD _ _ _ _ _ _ _ _ PassesOwn.never rfl (@ya7 _ _ _ _ (@yhj _ _ _ _ _ _ _ _ (pv 1))) (@yae _ _ 3 _ zbe.nd rfl (Or.inl rfl) (by trivial)) (zae (@zag _ _ 2 _ _ _ _ zbe.nd rfl (Or.inl rfl) (yaf yar (yaf yaX (pv 2) (zan yas (pv 0) yac (fun _ _=>rfl))) (pv 3)) (by rfl) (by trivial))) (by intro _;rfl)) (zae (@zal _ _ _ _ (pv 2))))),?_⟩
  refine ⟨_,rfl,b,_,rfl,hb,fun l hl=>?_⟩
  have g1:Same H (upd H l (.lst (ds.map Vn).reverse)):=zac hl _
  refine ⟨l,rfl,⟨_,SqL.of zab⟩,zde (xs:=(ds.map Vn).reverse) (fun i σ H'=>H'=upd H l (.lst (ds.map Vn).reverse)∧∃s,σ=[some (.ref a),some (.ref b),some (Vn (num p (ds.drop (ds.length-i)))),s]) ⟨rfl,none,by rw [Nat.sub_zero,List.drop_length];rfl⟩ ?_ ?_ ?_⟩
  · rintro i σ H' hi ⟨rfl,_⟩;exact SqL.of zab
  · rintro i x σ H' hx ⟨rfl,s,rfl⟩
    have hi:i<ds.length:=by have:=(List.getElem?_eq_some_iff.mp hx).1;simpa using this
    have ex:x=Vn (ds[ds.length-1-i]):=by
      rw [List.getElem?_reverse (by simpa using hi),List.getElem?_map,List.length_map,List.getElem?_eq_getElem (by omega)] at hx
      exact (Option.some.inj hx).symm
    subst ex
    walk_at "rd"
    refine ⟨a,_,_,_,rfl,rfl,Same.tup g1 hF,rfl,?_⟩
    walk_at "rd"
    refine ⟨.inr ⟨by show -(2^64:Int)<(p:Int);omega,by show (p:Int)<2^64;omega⟩,?_⟩
    walk_at "rd"
    refine ⟨rfl,some (Vn (ds[ds.length-1-i])),?_⟩
    have e:ds.drop (ds.length-(i+1))=ds[ds.length-1-i]::ds.drop (ds.length-i):=by
      rw [show ds.length-(i+1)=ds.length-1-i by omega,List.drop_eq_getElem_cons (by omega)]
      congr 2;omega
    rw [e];rfl
  · rintro σ H' ⟨rfl,s,rfl⟩
    refine ⟨_,rfl,?_⟩
    have e:ds.length-(ds.map Vn).reverse.length=0:=by simp
    rw [e,List.drop_zero]
    exact q _ g1
def yej (K:PySem.W.Frag):Sp:=fun vs H Q _=>∃(a:Addr) (ns:List Int),vs=[.ref a]∧SqL K H a (ns.map V.int)∧∀r g H',H r=none→H g=none→Same H H'→Pu H' r g→Q (.ref r) H'
theorem ybk:yaj ["_law_script","_law_seed","_law_great","_law_cell"] ["_law_script"] (zad yaZ):=⟨rfl,rfl,rfl,by decide +kernel,rfl,by decide +kernel,by decide +kernel⟩
theorem zgt {i:Int} (h:0≤i):∃n:Nat,V.int i=Vn n:=by obtain ⟨n,e⟩:=Int.eq_ofNat_of_zero_le h;exact ⟨n,by rw [e]⟩
theorem ygk (B:Bl mg) (F:Fun K "_law_purse" "_law_purse" yaZ f fd):FnOk P w K mg base CX0 1 f fd ["_law_script"] (yej K):=by
  refine F.ok ybk (fun vs H Q E h=>?_) (fun cdv A outer s H vs Q E hr h=>?_)
  · obtain ⟨a,ns,rfl,_⟩:=h;rfl
  obtain ⟨a,ns,rfl,ha,q⟩:=h
  refine ⟨_,(yab (@ybB _ _ 1 2 _ _ _ _ _ _ _ _ _ _ _ rfl ybk.nd rfl rfl (by decide) rfl rfl (zaa yac (zaa (@zaE _ _ _ _ yaa) yaa (by rfl)) (by rfl)) rfl (by rfl)) (yab (@yaD _ _ _ _ _ _ _ _ PassesOwn.never rfl (@ya7 _ _ _ _ (@ybv _ _ _ _ _ _ _ _ _ _ ye0 (pv 0) ybX (@zbY _ _ _ yac))) (@yae _ _ 3 _ ybk.nd rfl (Or.inl rfl) (by trivial)) (yab (@zag _ _ 1 _ _ _ _ ybk.nd rfl (Or.inl rfl) (yaf zaz (yaf yar (yaf yar (yaf yaX (pv 1) yac) (yaf zaz (pv 3) yac)) yac) yac) (by rfl) (by trivial)) (zae (@yba _ _ _ _ _ _ _ _ (@zai _ _ _ _ _ _ _ _ zho (zak yem rfl (B "abs" (by decide)) ycK (zaa (pv 3) yaa (by rfl)) (by decide) (by decide) (by rfl) (by rfl)) (yaf yen yac yac) (yal _)) (zae (@ybV _ _ _ _ (@zcG _ _ _ _ _ _ _ _ _ _ _ _ PySem.F.plainAttrs_list PySem.F.slot_list_append PySem.F.type_list_append ybp (pv 2) (zaa (yaf zaz (zak yem rfl (B "abs" (by decide)) ycK (zaa (pv 3) yaa (by rfl)) (by decide) (by decide) (by rfl) (by rfl)) (yaf ygR (yaf yen yac yac) (yaf yen yac yac))) yaa (by rfl)) (by rfl) (by rfl) (by rfl) (by rfl) (by rfl)) (by rfl))) zax))) (by intro _;rfl)) (zae (@zal _ _ _ _ (@zaE _ _ _ _ (zaa (pv 2) (zaa (pv 1) (zaa yac yaa (by rfl)) (by rfl)) (by rfl))))))),?_⟩
  refine ⟨szl 0,fun g hg=>?_⟩
  have g1:Same H (upd H g (.lst [])):=zac hg _
  refine ⟨_,_,rfl,?_⟩
  refine ⟨_,rfl,_,rfl,a,_,rfl,g1.seq ha,fun l hl=>?_⟩
  generalize hcut:cutV (ns.map V.int) none (some 40)=cs
  have hcs:∀x∈cs,∃i:Int,x = .int i:=fun x hx=>by
    rw [←hcut] at hx
    unfold cutV at hx
    obtain ⟨i,_,e⟩:=List.mem_map.mp (List.mem_of_mem_drop (List.mem_of_mem_take hx))
    exact ⟨i,e.symm⟩
  have hlen:cs.length≤40:=by
    rw [←hcut];unfold cutV
    rw [List.length_take,show HT.sIx (ns.map V.int).length (ns.map V.int).length (some 40)=min 40 (ns.map V.int).length from HT.sIx_nat _ _ 40]
    omega
  have hgl:l≠g:=fun e=>by rw [e,zab] at hl;cases hl
  refine ⟨l,rfl,⟨_,SqL.of zab⟩,zde (xs:=cs) (fun i σ H'=>(∃(s:Nat) (x:Option V) (gs:List Nat),gs.length≤i∧σ=[some (.ref a),some (Vn s),some (.ref g),x]∧H' g=some (.lst (gs.map Vn)))∧Same H H'∧H' l=some (.lst cs))
    ⟨⟨7,none,[],Nat.le_refl _,rfl,by rw [yag (Ne.symm hgl)];exact zab⟩,g1.trans (zac hl _),zab⟩ ?_ ?_ ?_⟩
  · rintro i σ H' hi ⟨_,_,h⟩;exact SqL.of h
  · rintro i x σ H' hx ⟨⟨s,x0,gs,hgs,rfl,hg'⟩,sm,hl'⟩
    obtain ⟨c,rfl⟩:=hcs x (List.mem_of_getElem? hx)
    have hi:i<cs.length:=(List.getElem?_eq_some_iff.mp hx).1
    walk_at "rd"
    refine ⟨.inr ⟨by decide,by decide⟩,?_⟩
    walk_at "rd"
    refine ⟨by show (0:Int)<2305843009213693951;decide,?_⟩
    walk_at "rd"
    refine ⟨by show (0:Int)<2305843009213693951;decide,?_⟩
    obtain ⟨s',es⟩:=zgt (i:=((s:Int)*1000003+c%2305843009213693951+12345)%2305843009213693951) (Int.emod_nonneg _ (by decide))
    dsimp only [zau];rw [es]
    refine ⟨_,rfl,_,rfl,_,_,rfl,rfl,⟨by decide,by decide,by decide⟩,?_⟩
    refine ⟨_,_,rfl,rfl,_,rfl,?_⟩
    refine ite2 (fun c2=>?_) (fun c2=>?_)
    · refine ⟨_,rfl,.inl ⟨rfl,_,SqL.of hg'⟩,?_⟩
      refine ⟨_,rfl,_,rfl,_,_,rfl,rfl,⟨by decide,by decide,by decide⟩,?_⟩
      refine ⟨_,_,rfl,rfl,⟨by decide,by decide,by decide⟩,?_⟩
      refine ⟨_,_,rfl,rfl,IntMulOk.of_bits (by decide +kernel) (by decide +kernel),?_⟩
      refine ⟨_,_,rfl,rfl,by show (0:Int)<10^Int.toNat 60*10^Int.toNat 60;decide +kernel,?_⟩
      obtain ⟨d,ed⟩:=zgt (i:=(if c<0 then -c else c)%(10^(60:Int).toNat*10^(60:Int).toNat)) (Int.emod_nonneg _ (by decide))
      dsimp only;rw [ed]
      refine ⟨g,_,_,rfl,rfl,hg',?_,⟨s',some (.int c),gs++[d],by simp;omega,rfl,by rw [zab,List.map_append];rfl⟩,?_,?_⟩
      · rw [List.length_map];exact Nat.lt_of_le_of_lt (show gs.length≤1000 by omega) (zam (Nat.le_refl _))
      · intro b o e
        rw [yag (zaf e hg)]
        exact sm b o e
      · rw [yag hgl];exact hl'
    · exact ⟨⟨s',some (.int c),gs,by omega,rfl,hg'⟩,sm,hl'⟩
  · rintro σ H' ⟨⟨s,x,gs,hgs,rfl,hg'⟩,sm,_⟩
    refine ⟨_,rfl,_,rfl,szl 3,fun r hr=>?_⟩
    have ne:g≠r:=zaf hg' hr
    refine q r g _ (sm.free hr) hg (sm.trans (zac hr _)) ⟨gs,s,0,zab,?_⟩
    rw [yag ne];exact hg'
theorem ydd {α:Type} (x:α) (xs:List α):atI (x::xs) 0=some x:=yaw (j:=0) rfl
theorem yeu {n:Nat} (h:0<n):ixN n 0=some 0:=by
  unfold ixN
  rw [if_pos (by decide),if_pos (by omega)];rfl
theorem ybh {t u:TS} {D:Ends} {σ:St} {H:Hp} (Ex:St→Hp→Prop) (r:∀σ' H',Ex σ' H'→u D σ' H') (h:∀D':Ends,D'.rt=D.rt→D'.bk=D.bk→D'.ct=D.ct→(∀σ' H',Ex σ' H'→D'.nx σ' H')→t D' σ H):tSeq t u D σ H:=h _ rfl rfl rfl r
def zbN:Sp:=fun vs H Q _=>∃(a g:Addr) (n:Nat),vs=[.ref a,Vn n]∧Pu H a g∧0<n∧n<2^200∧∀(r:Nat) H',r<n→Pu H' a g→yan a g H H'→Q (Vn r) H'
def zdq (H:Hp) (g:Addr):Nat:=match H g with
  | some (.lst xs)=>xs.length
  | _=>0
theorem zb2 {H:Hp} {g:Addr} {xs:List V} (h:H g=some (.lst xs)):zdq H g=xs.length:=by unfold zdq;rw [h]
theorem modn {x:Int} {n:Nat} (h:0<n):∃r:Nat,r<n∧V.int (x%(n:Int))=Vn r:=by
  have h1:=Int.emod_nonneg x (show (n:Int)≠0 by omega)
  have h2:=Int.emod_lt_of_pos x (show (0:Int)<n by omega)
  exact ⟨(x%(n:Int)).toNat,by omega,by show V.int _=V.int _;congr 1;omega⟩
theorem za2:yaj ["_law_purse_here","_law_many","_law_digit","_law_turn","_law_prime","_law_once","_law_mixed"] ["_law_purse_here","_law_many"] (zad ya9):=⟨rfl,rfl,rfl,by decide +kernel,rfl,by decide +kernel,by decide +kernel⟩
theorem zgG (B:Bl mg) (F:Fun K "_law_pick" "_law_pick" ya9 f fd):FnOk P w K mg base CX0 1 f fd ["_law_purse_here","_law_many"] zbN:=by
  refine F.ok za2 (fun vs H Q E h=>?_) (fun cdv A outer s H vs Q E hr h=>?_)
  · obtain ⟨a,g,n,rfl,_⟩:=h;rfl
  obtain ⟨a,g,n,rfl,hP,hn,hn2,q⟩:=h
  have nag:=hP.ne
  refine ⟨_,(yab (@zaT _ _ _ _ _ _ PassesOwn.never (@PW.pt _ _ _ (@zfP _ _ _ _ _ _ _ (@zai _ _ _ _ _ _ _ _ (ygp hr.units0) (zan zaq (pv 0) yac (fun _ _=>rfl)) (@zaE _ _ _ _ yaa) (yal _)) (@zea _ _ _ _ (@zai _ _ _ _ _ _ _ _ zbr (zan zaq (zan zaq (pv 0) yac (fun _ _=>rfl)) yac (fun _ _=>rfl)) yac (yal _))))) (zae (@ybV _ _ _ _ (@zcG _ _ _ _ _ _ _ _ _ _ _ _ PySem.F.plainAttrs_list PySem.F.slot_list_pop PySem.F.type_list_pop ydh (zan zaq (pv 0) yac (fun _ _=>rfl)) (zaa yac yaa (by rfl)) (by rfl) (by rfl) (by rfl) (by rfl) (by rfl)) (by rfl)))) (yab (@yba _ _ _ _ _ _ _ _ (@zai _ _ _ _ _ _ _ _ (ygp hr.units0) (zan zaq (pv 0) yac (fun _ _=>rfl)) (@zaE _ _ _ _ yaa) (yal _)) (yab (@zag _ _ 2 _ _ _ _ za2.nd rfl (Or.inl rfl) (yaf zaz (zan zaq (zan zaq (pv 0) yac (fun _ _=>rfl)) yac (fun _ _=>rfl)) (pv 1)) (by rfl) (by trivial)) (yab (@za6 _ _ _ _ _ _ (yaf zgI (zan zaq (zan zaq (pv 0) yac (fun _ _=>rfl)) yac (fun _ _=>rfl)) (pv 1)) (@zcH _ _ _ _ _ _ _ (zan zaq (pv 0) yac (fun _ _=>rfl)) yac ybM (by intro _;rfl)) (by rfl) (by rfl) (by rfl)) (zae (@zal _ _ _ _ (pv 2))))) zax) (yab (@za6 _ _ _ _ _ _ (yaf yar (zan zaq (pv 0) yac (fun _ _=>rfl)) yac) (@zcH _ _ _ _ _ _ _ (pv 0) yac ybM (by intro _;rfl)) (by rfl) (by rfl) (by rfl)) (yab (@zag _ _ 3 _ _ _ _ za2.nd rfl (Or.inl rfl) (zan zaq (pv 0) yac (fun _ _=>rfl)) (by rfl) (by trivial)) (yab (@zag _ _ 4 _ _ _ _ za2.nd rfl (Or.inl rfl) (zan zaq (@zaE _ _ _ _ (zaa yac (zaa yac (zaa yac (zaa yac (zaa yac (zaa yac (zaa yac yaa (by rfl)) (by rfl)) (by rfl)) (by rfl)) (by rfl)) (by rfl)) (by rfl))) (yaf zaz (pv 3) yac) (fun _ _=>rfl)) (by rfl) (by trivial)) (yab (@zag _ _ 5 _ _ _ _ za2.nd rfl (Or.inl rfl) (yaf zaz (yaf yar (zan zaq (pv 0) yac (fun _ _=>rfl)) (yaf yaX yac (pv 3))) yac) (by rfl) (by trivial)) (yab (@zag _ _ 6 _ _ _ _ za2.nd rfl (Or.inl rfl) (yaf yaX (yaf zaz (yaf yen (pv 5) yac) yac) (yaf yar (yaf yaX yac (pv 3)) yac)) (by rfl) (by trivial)) (zae (@zal _ _ _ _ (yaf zaz (yaf ycq (yaf zaz (yaf yar (pv 6) (yaf ycq (zan zaq (pv 0) yac (fun _ _=>rfl)) yac)) (pv 4)) yac) (pv 1))))))))))),?_⟩
  refine ybh (fun σ H'=>σ=[some (.ref a),some (Vn n),none,none,none,none,none]∧Pu H' a g∧yan a g H H') ?_ ?_
  · rintro σ H' ⟨rfl,⟨ns,x,t,ha,hg⟩,sm⟩
    refine ybh (fun σ H1=>ns=[]∧σ=[some (.ref a),some (Vn n),none,none,none,none,none]∧H1 a=some (.lst [.ref g,Vn x,Vn t])∧H1 g=some (.lst [])∧yan a g H H1) ?_ ?_
    · rintro σ H1 ⟨rfl,rfl,ha,hg,sm⟩
      refine ⟨_,rfl,a,_,_,_,rfl,rfl,SqL.of ha,rfl,?_⟩
      refine ⟨_,_,rfl,rfl,?_⟩
      refine ⟨_,rfl,a,_,2,2,rfl,rfl,ha,rfl,?_⟩
      have h1:(upd H1 a (.lst [.ref g,Vn x,.int ((t:Int)+1)])) a=some (.lst [.ref g,Vn x,Vn (t+1)]):=zab
      have h2:(upd H1 a (.lst [.ref g,Vn x,.int ((t:Int)+1)])) g=some (.lst []):=by rw [yag (Ne.symm nag)];exact hg
      have h3:yan a g H (upd H1 a (.lst [.ref g,Vn x,.int ((t:Int)+1)])):=fun b o n1 n2 e=>by rw [yag n1];exact sm b o n1 n2 e
      change tSeq _ _ _ _ (upd H1 a (.lst [.ref g,Vn x,.int ((t:Int)+1)]))
      generalize upd H1 a (.lst [.ref g,Vn x,.int ((t:Int)+1)])=H2 at h1 h2 h3 ⊢
      refine ⟨_,rfl,a,_,_,_,rfl,rfl,SqL.of h1,rfl,?_⟩
      refine ⟨szl 7,fun l hl=>?_⟩
      have nla:a≠l:=zaf h1 hl
      have nlg:g≠l:=zaf h2 hl
      refine ⟨_,rfl,_,_,rfl,rfl,by show (0:Int)<7;decide,?_⟩
      obtain ⟨k,hk,ek⟩:=modn (x:=((t+1:Nat):Int)) (n:=7) (by omega)
      have hprime:∃pr:Nat,61<pr∧atI [V.int 2147483629,.int 2147483587,.int 2147483579,.int 2147483563,.int 2147483549,.int 2147483543,.int 2147483497] (k:Int)=some (Vn pr):=by
        have:k=0∨k=1∨k=2∨k=3∨k=4∨k=5∨k=6:=by omega
        rcases this with rfl|rfl|rfl|rfl|rfl|rfl|rfl
        · exact ⟨2147483629,by decide,rfl⟩
        · exact ⟨2147483587,by decide,rfl⟩
        · exact ⟨2147483579,by decide,rfl⟩
        · exact ⟨2147483563,by decide,rfl⟩
        · exact ⟨2147483549,by decide,rfl⟩
        · exact ⟨2147483543,by decide,rfl⟩
        · exact ⟨2147483497,by decide,rfl⟩
      obtain ⟨pr,hpr,epr⟩:=hprime
      have ek':((t+1:Nat):Int)%(7:Int)=(k:Int):=by have:=V.int.inj ek;exact this
      refine ⟨l,_,k,Vn pr,rfl,ek,SqL.of zab,epr,?_⟩
      have h1':(upd H2 l (.lst [V.int 2147483629,.int 2147483587,.int 2147483579,.int 2147483563,.int 2147483549,.int 2147483543,.int 2147483497])) a=some (.lst [.ref g,Vn x,Vn (t+1)]):=by rw [yag nla];exact h1
      have h2':(upd H2 l (.lst [V.int 2147483629,.int 2147483587,.int 2147483579,.int 2147483563,.int 2147483549,.int 2147483543,.int 2147483497])) g=some (.lst []):=by rw [yag nlg];exact h2
      have h3':yan a g H (upd H2 l (.lst [V.int 2147483629,.int 2147483587,.int 2147483579,.int 2147483563,.int 2147483549,.int 2147483543,.int 2147483497])):=h3.trans (Same.x (zac hl _))
      change tSeq _ _ _ _ (upd H2 l (.lst [V.int 2147483629,.int 2147483587,.int 2147483579,.int 2147483563,.int 2147483549,.int 2147483543,.int 2147483497]))
      generalize upd H2 l (.lst [V.int 2147483629,.int 2147483587,.int 2147483579,.int 2147483563,.int 2147483549,.int 2147483543,.int 2147483497])=H3 at h1' h2' h3' ⊢
      refine ⟨_,rfl,a,_,_,_,rfl,rfl,SqL.of h1',rfl,?_⟩
      refine ⟨_,rfl,_,_,rfl,rfl,.inl ⟨by decide,by decide⟩,?_⟩
      refine ⟨_,_,rfl,rfl,?_⟩
      refine ⟨_,_,rfl,rfl,by show (0:Int)<2147483647;decide,?_⟩
      obtain ⟨on,hon,eon⟩:=modn (x:=(x:Int)+65537*((t+1:Nat):Int)) (n:=2147483647) (by decide)
      dsimp only [zau]
      rw [show V.int (((x:Int)+65537*((t+1:Nat):Int))%2147483647)=Vn on from eon]
      refine ⟨_,rfl,_,_,rfl,rfl,⟨by decide,by decide,by show (on:Int).natAbs<2^64;omega⟩,?_⟩
      refine ⟨_,_,rfl,rfl,by show (0:Int)<2147483647;decide,?_⟩
      obtain ⟨o5,ho5,eo5⟩:=modn (x:=(on:Int)^(5:Int).toNat) (n:=2147483647) (by decide)
      refine ⟨_,rfl,_,_,rfl,rfl,.inl ⟨by decide,by decide⟩,?_⟩
      refine ⟨_,_,rfl,rfl,?_⟩
      have b5:(on:Int)^(5:Int).toNat%2147483647=(o5:Int):=V.int.inj eo5
      refine ⟨_,_,rfl,rfl,.inl ⟨by rw [b5];omega,by rw [b5];omega⟩,?_⟩
      refine ⟨_,rfl,_,rfl,a,_,_,_,rfl,rfl,SqL.of h1',rfl,?_⟩
      refine ⟨_,_,rfl,rfl,⟨by show (0:Int)<2147483647;decide,by show (2147483647:Int)<2^64;decide⟩,?_⟩
      refine ⟨_,_,rfl,rfl,?_⟩
      refine ⟨_,rfl,_,_,rfl,rfl,by show (0:Int)<(pr:Int);omega,?_⟩
      refine ⟨_,_,rfl,rfl,⟨by show (0:Int)<61;decide,by show (61:Int)<2^64;decide⟩,?_⟩
      refine ⟨_,rfl,_,_,rfl,rfl,by show (0:Int)<(n:Int);omega,?_⟩
      obtain ⟨r,hr',er⟩:=modn (x:=((on:Int)^(5:Int).toNat%2147483647*(2*((t+1:Nat):Int)+1)+(x:Int)/2147483647)%(pr:Int)/61) hn
      dsimp only
      rw [er]
      exact q r H3 hr' ⟨[],x,t+1,h1',h2'⟩ h3'
    · intro D' hrt _ _ hD
      refine ⟨_,rfl,a,_,_,_,rfl,rfl,SqL.of ha,rfl,szl 0,fun l hl=>?_⟩
      have nla:a≠l:=zaf ha hl
      have nlg:g≠l:=zaf hg hl
      have hg1:(upd H' l (.lst [])) g=some (.lst (ns.map Vn)):=by rw [yag nlg];exact hg
      have ha1:(upd H' l (.lst [])) a=some (.lst [.ref g,Vn x,Vn t]):=by rw [yag nla];exact ha
      have sm1:yan a g H (upd H' l (.lst [])):=sm.trans (Same.x (zac hl _))
      refine ⟨g,l,_,rfl,rfl,SqL.of hg1,SqL.of zab,_,rfl,?_⟩
      refine ite2 (fun c=>?_) (fun c=>?_)
      · cases ns with
        | nil=>exact absurd c (by simp)
        | cons d ns =>
          refine ⟨_,rfl,a,_,_,_,rfl,rfl,SqL.of ha1,rfl,?_⟩
          refine ⟨g,_,_,_,rfl,rfl,SqL.of hg1,ydd _ _,?_⟩
          refine ⟨_,rfl,_,_,rfl,rfl,by show (0:Int)<(n:Int);omega,?_⟩
          refine ⟨_,rfl,a,_,_,_,rfl,rfl,SqL.of ha1,rfl,?_⟩
          refine ⟨g,_,_,_,rfl,rfl,SqL.of hg1,ydd _ _,?_⟩
          refine ⟨_,rfl,_,_,rfl,rfl,⟨by show (0:Int)<(n:Int);omega,by show (n:Int)<2^1000;omega⟩,?_⟩
          refine ⟨_,rfl,a,_,_,_,rfl,rfl,SqL.of ha1,rfl,?_⟩
          refine ⟨g,_,0,0,rfl,rfl,hg1,yeu (by simp),?_⟩
          refine ⟨_,rfl,?_⟩
          rw [hrt]
          refine q (d%n) _ (Nat.mod_lt _ hn) ⟨(d/n)::ns,x,t,by rw [yag nag];exact ha1,zab⟩ fun b o n1 n2 e=>by rw [yag n2];exact sm1 b o n1 n2 e
      · cases ns with
        | nil=>exact hD _ _ ⟨rfl,rfl,ha1,hg1,sm1⟩
        | cons d ns=>exact absurd (by simp) c
  · intro D' _ _ _ hD
    refine yaW (fun σ H'=>σ=[some (.ref a),some (Vn n),none,none,none,none,none]∧Pu H' a g∧yan a g H H') (fun _ H'=>zdq H' g) ⟨rfl,hP,yan.refl⟩ ?_
    rintro σ H' ⟨rfl,⟨ns,x,t,ha,hg⟩,sm⟩
    refine ⟨_,rfl,a,_,_,_,rfl,rfl,SqL.of ha,rfl,szl 0,fun l hl=>?_⟩
    have nla:a≠l:=zaf ha hl
    have nlg:g≠l:=zaf hg hl
    have hg1:(upd H' l (.lst [])) g=some (.lst (ns.map Vn)):=by rw [yag nlg];exact hg
    have ha1:(upd H' l (.lst [])) a=some (.lst [.ref g,Vn x,Vn t]):=by rw [yag nla];exact ha
    have sm1:yan a g H (upd H' l (.lst [])):=sm.trans (Same.x (zac hl _))
    refine ⟨g,l,_,rfl,rfl,SqL.of hg1,SqL.of zab,_,rfl,?_⟩
    refine ite2 (fun c=>?_) (fun c=>?_)
    · cases ns with
      | nil=>exact absurd c (by simp)
      | cons d ns =>
        refine ⟨_,rfl,a,_,_,_,rfl,rfl,SqL.of ha1,rfl,?_⟩
        refine ⟨g,_,_,_,rfl,rfl,SqL.of hg1,ydd _ _,?_⟩
        refine ⟨rfl,_,rfl,?_⟩
        refine ite2 (fun c=>?_) (fun c=>?_)
        · refine ⟨fun σ' H''=>σ'=[some (.ref a),some (Vn n),none,none,none,none,none]∧H''=upd (upd H' l (.lst [])) g (.lst (ns.map Vn)),?_,?_⟩
          · rintro σ' H'' ⟨rfl,rfl⟩
            refine ⟨_,?_,rfl,rfl,⟨ns,x,t,by rw [yag nag];exact ha1,zab⟩,fun b o n1 n2 e=>by rw [yag n2];exact sm1 b o n1 n2 e⟩
            rw [zb2 hg,zb2 (xs:=ns.map Vn) zab];simp
          · refine ⟨_,rfl,a,_,_,_,rfl,rfl,SqL.of ha1,rfl,.inl ⟨rfl,_,SqL.of hg1⟩,?_⟩
            exact ⟨g,_,0,0,Vn d,rfl,rfl,hg1,by decide,by decide,(ycS (yeu (by simp))).1,rfl,rfl,rfl⟩
        · exact hD _ _ ⟨rfl,⟨d::ns,x,t,ha1,hg1⟩,sm1⟩
    · refine ite2 (fun c2=>absurd c2 (by decide)) (fun _=>?_)
      exact hD _ _ ⟨rfl,⟨ns,x,t,ha1,hg1⟩,sm1⟩
end
end My
end
section
-- text: P3
namespace My
open PySem L2 Dg
local macro_rules | `(tactic| walk_at "rd") => `(tactic| repeat (first | refine ⟨_, rfl, ?_⟩ | refine ⟨_, _, rfl, rfl, ?_⟩))
def sumN:Nat→(Nat→Nat)→Nat
  | 0,_=>0
  | n+1,g=>sumN n g+g n
theorem yc3:∀(n:Nat) (g:Nat→Nat),sumN (n+1) g=g 0+sumN n fun j=>g (j+1)
  | 0,g=>by simp [sumN]
  | n+1,g=>by rw [sumN,yc3 n g,sumN];omega
theorem zeL {n:Nat} {g h:Nat→Nat} (e:∀j,j<n→g j=h j):sumN n g=sumN n h:=by
  induction n with
  | zero=>rfl
  | succ n ih=>rw [sumN,sumN,ih fun j hj=>e j (by omega),e n (by omega)]
def shN (j:Nat) (y:Nat→Nat) (i:Nat):Nat:=if j≤i then y (i-j) else 0
theorem zdE:∀(k:Nat) (f y:Nat→Nat) (i:Nat),zdf k f y i=sumN k fun j=>f j*shN j y i
  | 0,_,_,_=>rfl
  | k+1,f,y,i=>by
    rw [yc3]
    show f 0*y i+zaY (zdf k (fun j=>f (j+1)) y) i=f 0*shN 0 y i+_
    congr 1
    unfold zaY
    by_cases h:i=0
    · rw [if_pos h]
      subst h
      have:∀n,sumN n (fun j=>f (j+1)*shN (j+1) y 0)=0:=fun n=>by
        induction n with
        | zero=>rfl
        | succ n ih=>rw [sumN,ih];unfold shN;rw [if_neg (by omega)];simp
      exact (this k).symm
    · rw [if_neg h,zdE k]
      refine zeL fun j _=>?_
      congr 1
      unfold shN
      by_cases h2:j+1≤i
      · rw [if_pos h2,if_pos (by omega)];congr 1;omega
      · rw [if_neg h2,if_neg (by omega)]
def rowL (p n:Nat) (c:Nat→Nat):List V:=(List.range n).map fun i=>Vn (c i%p)
theorem zb1 (p n:Nat) (c:Nat→Nat):(rowL p n c).length=n:=by simp [rowL]
theorem ydj {p n:Nat} (c:Nat→Nat) {i:Nat} (h:i<n):(rowL p n c)[i]?=some (Vn (c i%p)):=by
  unfold rowL;rw [List.getElem?_map,List.getElem?_range h];rfl
theorem zd2 {p n:Nat} (c:Nat→Nat) {i:Nat} {j:Int} (h:i<n) (e:j=(i:Int)):atI (rowL p n c) j=some (Vn (c i%p)):=by
  subst e;exact yaw (ydj c h)
theorem ybC {p n:Nat} {c c':Nat→Nat} (h:∀i,i<n→c i%p=c' i%p):rowL p n c=rowL p n c':=by
  unfold rowL
  refine List.map_congr_left fun i hi=>?_
  rw [h i (List.mem_range.mp hi)]
theorem yfT {p n:Nat} (c:Nat→Nat) {s v:Nat} (h:s<n):(rowL p n c).set s (Vn (v%p))=rowL p n fun i=>if i=s then v else c i:=by
  refine List.ext_getElem? fun i=>?_
  by_cases hi:i<n
  · rw [ydj _ hi,List.getElem?_set]
    by_cases e:s=i
    · subst e;rw [if_pos rfl,if_pos (by rw [zb1];exact hi),if_pos rfl]
    · rw [if_neg e,ydj _ hi,if_neg (Ne.symm e)]
  · rw [List.getElem?_eq_none (by rw [List.length_set,zb1];omega),List.getElem?_eq_none (by rw [zb1];omega)]
theorem yfm {p n:Nat} {c:Nat→Nat} {s v:Nat} (h:s<n) {c':Nat→Nat} (hc:∀i,i<n→c' i%p=(if i=s then c s%p+v else c i)%p):(rowL p n c).set s (Vn ((c s%p+v)%p))=rowL p n c' :=
  (yfT c h).trans (ybC fun i hi=>(hc i hi).symm)
theorem zff {n s:Nat} {j:Int} (h:s<n) (e:j=(s:Int)):ixN n j=some s:=by
  subst e
  unfold ixN
  rw [if_pos (by omega),if_pos (by omega)];simp
theorem ygj (p k:Nat) (hp:0<p):(List.replicate k [V.int 0]).flatten=rowL p k fun _=>0:=by
  induction k with
  | zero=>rfl
  | succ k ih =>
    rw [List.replicate_succ',List.flatten_append,ih]
    unfold rowL
    rw [List.range_succ,List.map_append]
    simp
section
variable {P:Program} {w:World} {K:PySem.W.Frag} {mg:Str→Option Value} {base:Heap} {f:Addr} {fd:FuncData}
def ych (K:PySem.W.Frag):Sp:=fun vs H Q _=>∃(a:Addr) (p m t x y:Nat),vs=[.ref a,.int x,.int y]∧Fld K H a p m t∧2≤p∧1≤m∧p^m≤64∧t<p^m∧x<p^m∧y<p^m∧
  ∀(r:Nat) H',Same H H'→r<p^m→(∀i,i<m→dg p i r=tn m (fun i=>dg p i t) m (fun i=>dg p i x) (fun i=>dg p i y) i%p)→Q (.int r) H'
theorem zdm {p m x i:Nat} (h:i<m):(digL p m x)[i]?=some (Vn (dg p i x)):=by
  unfold digL;rw [List.getElem?_map,List.getElem?_range h];rfl
theorem ydS {l:Addr} {H H':Hp} {o:HO} (h:yan l l H H'):yan l l H (upd H' l o):=fun b u n1 n2 e=>by rw [yag n1];exact h b u n1 n2 e
theorem yfd {l p:Addr} {H H':Hp} {o:HO} (h:yan l l H H') (hp:H' p=none):yan l l H (upd H' p o):=h.trans (Same.x (zac hp o))
theorem ydu {l:Addr} {H H':Hp} (h:yan l l H H') (hl:H l=none):Same H H':=fun b o e=>h b o (zaf e hl) (zaf e hl) e
theorem yam:yaj ["_law_field_here","_law_one","_law_other","_law_p","_law_m","_law_top","_law_row","_law_j","_law_digit","_law_k","_law_by","_law_place","_law_at"] ["_law_field_here","_law_one","_law_other"] (zad yaJ):=⟨rfl,rfl,rfl,by decide +kernel,rfl,by decide +kernel,by decide +kernel⟩
theorem yeD (B:Bl mg) (h__law_digits:Has P w K mg base 1 "_law_digits" ["_law_field_here","_law_thing"] (zdM K)) (h__law_number:Has P w K mg base 1 "_law_number" ["_law_field_here","_law_digits_here"] (ydw K)) (F:Fun K "_law_product" "_law_product" yaJ f fd):FnOk P w K mg base CX0 2 f fd ["_law_field_here","_law_one","_law_other"] (ych K):=by
  refine F.ok yam (fun vs H Q E h=>?_) (fun cdv A outer s H vs Q E hr h=>?_)
  · obtain ⟨a,p,m,t,x,y,rfl,_⟩:=h;rfl
  obtain ⟨a,p,m,t,x,y,rfl,hF,hp,hm,hpm,ht,hx,hy,q⟩:=h
  have hp2:=p_le hp hm hpm
  have hm6:=m_le hp hpm
  refine ⟨_,(@yab _ _ _ _ _ (@za6 _ _ _ _ _ _ (pv 0) (@ya8 _ _ _ _ _ _ rfl (@zah _ _ _ _ _ (@yae _ _ 3 _ yam.nd rfl (Or.inl rfl) (by trivial)) (@zah _ _ _ _ _ (@yae _ _ 4 _ yam.nd rfl (Or.inl rfl) (by trivial)) (@zah _ _ _ _ _ (@yae _ _ 5 _ yam.nd rfl (Or.inl rfl) (by trivial)) yaH (by rfl)) (by rfl)) (by rfl)) (by rfl) (by rfl)) (by rfl) (by rfl) (by rfl)) (@yab _ _ _ _ _ (@zag _ _ 6 _ _ _ _ yam.nd rfl (Or.inl rfl) (@yaf _ _ _ _ _ _ _ _ zgq (@zaE _ _ _ _ (@zaa _ _ _ _ _ yac yaa (by rfl))) (@yaf _ _ _ _ _ _ _ _ ybq (@yaf _ _ _ _ _ _ _ _ yaX yac (pv 4)) yac)) (by rfl) (by trivial)) (@yab _ _ _ _ _ (@yaD _ _ _ _ _ _ _ _ PassesOwn.never rfl (@zco _ _ _ _ _ _ _ _ rfl (B "enumerate" (by decide)) (@zaa _ _ _ _ _ (@yad _ _ _ _ _ _ _ _ _ _ _ h__law_digits hr (by decide) rfl (@zaa _ _ _ _ _ (pv 0) (@zaa _ _ _ _ _ (pv 1) yaa (by rfl)) (by rfl)) (by decide) (by rfl) (by rfl)) yaa (by rfl)) (by rfl)) (@ya8 _ _ _ _ _ _ rfl (@zah _ _ _ _ _ (@yae _ _ 7 _ yam.nd rfl (Or.inl rfl) (by trivial)) (@zah _ _ _ _ _ (@yae _ _ 8 _ yam.nd rfl (Or.inl rfl) (by trivial)) yaH (by rfl)) (by rfl)) (by rfl) (by rfl)) (@zae _ _ _ (@yaD _ _ _ _ _ _ _ _ PassesOwn.never rfl (@zco _ _ _ _ _ _ _ _ rfl (B "enumerate" (by decide)) (@zaa _ _ _ _ _ (@yad _ _ _ _ _ _ _ _ _ _ _ h__law_digits hr (by decide) rfl (@zaa _ _ _ _ _ (pv 0) (@zaa _ _ _ _ _ (pv 2) yaa (by rfl)) (by rfl)) (by decide) (by rfl) (by rfl)) yaa (by rfl)) (by rfl)) (@ya8 _ _ _ _ _ _ rfl (@zah _ _ _ _ _ (@yae _ _ 9 _ yam.nd rfl (Or.inl rfl) (by trivial)) (@zah _ _ _ _ _ (@yae _ _ 10 _ yam.nd rfl (Or.inl rfl) (by trivial)) yaH (by rfl)) (by rfl)) (by rfl) (by rfl)) (@zae _ _ _ (@za6 _ _ _ _ _ _ (@yaf _ _ _ _ _ _ _ _ zaz (@yaf _ _ _ _ _ _ _ _ yar (@zan _ _ _ _ _ _ _ zaq (pv 6) (@yaf _ _ _ _ _ _ _ _ yar (pv 7) (pv 9)) (fun _ _=>rfl)) (@yaf _ _ _ _ _ _ _ _ yaX (pv 8) (pv 10))) (pv 3)) (@zcH _ _ _ _ _ _ _ (pv 6) (@yaf _ _ _ _ _ _ _ _ yar (pv 7) (pv 9)) ybM (by intro _;rfl)) (by rfl) (by rfl) (by rfl))) (by intro _;rfl))) (by intro _;rfl)) (@yab _ _ _ _ _ (@yaD _ _ _ _ _ _ _ _ PassesOwn.never rfl (@ygP _ _ _ _ _ _ _ _ rfl (B "range" (by decide)) (@zaa _ _ _ _ _ (@yaf _ _ _ _ _ _ _ _ ybq (@yaf _ _ _ _ _ _ _ _ yaX yac (pv 4)) yac) (@zaa _ _ _ _ _ (@yaf _ _ _ _ _ _ _ _ ybq (pv 4) yac) (@zaa _ _ _ _ _ (@zeN _ _ _ _ _ _ yc7 yac) yaa (by rfl)) (by rfl)) (by rfl)) (by rfl) (by rfl)) (@yae _ _ 11 _ yam.nd rfl (Or.inl rfl) (by trivial)) (@zae _ _ _ (@yaD _ _ _ _ _ _ _ _ PassesOwn.never rfl (@zco _ _ _ _ _ _ _ _ rfl (B "enumerate" (by decide)) (@zaa _ _ _ _ _ (@yad _ _ _ _ _ _ _ _ _ _ _ h__law_digits hr (by decide) rfl (@zaa _ _ _ _ _ (pv 0) (@zaa _ _ _ _ _ (pv 5) yaa (by rfl)) (by rfl)) (by decide) (by rfl) (by rfl)) yaa (by rfl)) (by rfl)) (@ya8 _ _ _ _ _ _ rfl (@zah _ _ _ _ _ (@yae _ _ 9 _ yam.nd rfl (Or.inl rfl) (by trivial)) (@zah _ _ _ _ _ (@yae _ _ 8 _ yam.nd rfl (Or.inl rfl) (by trivial)) yaH (by rfl)) (by rfl)) (by rfl) (by rfl)) (@yab _ _ _ _ _ (@zag _ _ 12 _ _ _ _ yam.nd rfl (Or.inl rfl) (@yaf _ _ _ _ _ _ _ _ yar (@yaf _ _ _ _ _ _ _ _ ybq (pv 11) (pv 4)) (pv 9)) (by rfl) (by trivial)) (@zae _ _ _ (@za6 _ _ _ _ _ _ (@yaf _ _ _ _ _ _ _ _ zaz (@yaf _ _ _ _ _ _ _ _ yar (@zan _ _ _ _ _ _ _ zaq (pv 6) (pv 12) (fun _ _=>rfl)) (@yaf _ _ _ _ _ _ _ _ yaX (@zan _ _ _ _ _ _ _ zaq (pv 6) (pv 11) (fun _ _=>rfl)) (pv 8))) (pv 3)) (@zcH _ _ _ _ _ _ _ (pv 6) (pv 12) ybM (by intro _;rfl)) (by rfl) (by rfl) (by rfl)))) (by intro _;rfl))) (by intro _;rfl)) (@zae _ _ _ (@zal _ _ _ _ (@yad _ _ _ _ _ _ _ _ _ _ _ h__law_number hr (by decide) rfl (@zaa _ _ _ _ _ (pv 0) (@zaa _ _ _ _ _ (@ybv _ _ _ _ _ _ _ _ _ _ ye0 (pv 6) ybX (@zbY _ _ _ (pv 4))) yaa (by rfl)) (by rfl)) (by decide) (by rfl) (by rfl)))))))),?_⟩
  refine ⟨_,rfl,a,_,rfl,hF,rfl,_,_,rfl,_,_,rfl,_,_,rfl,rfl,?_⟩
  refine ⟨szl 1,fun l0 hl0=>?_⟩
  refine ⟨_,rfl,_,_,rfl,rfl,.inl ⟨by decide,by decide⟩,?_⟩
  refine ⟨_,_,rfl,rfl,?_⟩
  have e21:(2*(m:Int)-1).toNat=2*m-1:=by omega
  refine ⟨l0,_,_,rfl,rfl,zab,by show -(2^63)≤2*(m:Int)-1;omega,by show 2*(m:Int)-1<2^63;omega,?_,fun l hl=>?_⟩
  · show 1*(2*(m:Int)-1).toNat≤sizeLine
    rw [e21];exact szl _
  dsimp only
  rw [e21,ygj p _ (by omega)]
  have hlH:H l=none:=(zac hl0 (.lst [.int 0])).free hl
  refine ybh (fun σ H'=>∃s7 s8 s9 s10 s11 s12,σ=[some (.ref a),some (Vn x),some (Vn y),some (Vn p),some (Vn m),some (Vn t),some (.ref l),s7,s8,s9,s10,s11,s12]∧yan l l H H'∧H' l=some (.lst (rowL p (2*m-1) (zdf m (fun i=>dg p i x) fun i=>dg p i y)))) ?_ ?_
  · rintro σ H' ⟨s7,s8,s9,s10,s11,s12,rfl,sx,hrow⟩
    refine ybh (fun σ H'=>∃s7 s8 s9 s10 s11 s12,σ=[some (.ref a),some (Vn x),some (Vn y),some (Vn p),some (Vn m),some (Vn t),some (.ref l),s7,s8,s9,s10,s11,s12]∧yan l l H H'∧∃c:Nat→Nat,H' l=some (.lst (rowL p (2*m-1) c))∧∀i,i<m→c i=tn m (fun i=>dg p i t) m (fun i=>dg p i x) (fun i=>dg p i y) i) ?_ ?_
    · rintro σ H' ⟨s7,s8,s9,s10,s11,s12,rfl,sx,c,hrow,hc⟩
      refine ⟨_,rfl,_,rfl,_,rfl,_,rfl,l,_,rfl,SqL.of hrow,fun l2 hl2=>?_⟩
      have sm2:Same H (upd H' l2 (.lst (cutV (rowL p (2*m-1) c) none (some (m:Int))))):=(ydu sx hlH).trans (zac hl2 _)
      refine ⟨a,l2,p,m,t,(List.range m).map fun i=>c i%p,rfl,Same.tup sm2 hF,hp,hp2,?_,fun H3 s3=>?_⟩
      · refine SqL.of ?_
        rw [zab]
        congr 2
        unfold cutV
        rw [HT.sIx_none,show HT.sIx (rowL p (2*m-1) c).length (rowL p (2*m-1) c).length (some (m:Int))=min m (rowL p (2*m-1) c).length from HT.sIx_nat _ _ m,zb1,List.drop_zero,show min m (2*m-1)-0=m by omega]
        unfold rowL
        rw [←List.map_take,List.take_range,List.map_map,show min m (2*m-1)=m by omega]
        rfl
      · have hds:∀d∈(List.range m).map (fun i=>c i%p),d<p:=fun d hd=>by
          obtain ⟨i,_,rfl⟩:=List.mem_map.mp hd
          exact Nat.mod_lt _ (by omega)
        have hg:∀i,((List.range m).map fun i=>c i%p).getD i 0=if i<m then c i%p else 0:=fun i=>by
          by_cases hi:i<m
          · rw [if_pos hi,List.getD,List.getElem?_map,List.getElem?_range hi];rfl
          · rw [if_neg hi,List.getD,List.getElem?_eq_none (by simpa using hi)];rfl
        refine q _ _ (sm2.trans s3) (zcm hp fun i hi=>?_) fun i hi=>?_
        · rw [zfd hp _ hds,hg,if_neg (by omega)]
        · rw [zfd hp _ hds,hg,if_pos hi,hc i hi]
    · intro D' _ _ _ hD
      refine ⟨_,rfl,_,_,rfl,rfl,.inl ⟨by decide,by decide⟩,?_⟩
      refine ⟨_,_,rfl,rfl,?_⟩
      refine ⟨_,rfl,_,_,rfl,rfl,?_⟩
      refine ⟨_,rfl,?_⟩
      refine ⟨2*(m:Int)-2,(m:Int)-1,rfl,⟨by omega,by omega,by omega,by omega⟩,?_⟩
      refine zbb yeW (fun i σ H'=>∃s7 s8 s9 s10 s11 s12,σ=[some (.ref a),some (Vn x),some (Vn y),some (Vn p),some (Vn m),some (Vn t),some (.ref l),s7,s8,s9,s10,s11,s12]∧yan l l H H'∧∃c:Nat→Nat,H' l=some (.lst (rowL p (2*m-1) c))∧
        redF m (fun i=>dg p i t) (m-1-i) c=redF m (fun i=>dg p i t) (m-1) (zdf m (fun i=>dg p i x) fun i=>dg p i y)) ⟨s7,s8,s9,s10,s11,s12,rfl,sx,_,hrow,rfl⟩ (fun _ _ _ _ _=>trivial) ?_ ?_
      · rintro i v σ H' H'' hi ⟨s7,s8,s9,s10,s11,s12,rfl,sx,c,hrow,hred⟩ ⟨rfl,rfl⟩
        obtain ⟨j,hj⟩:∃j,m-1-i=j+1:=⟨m-1-i-1,by omega⟩
        have eq:V.int (2*(m:Int)-2-(i:Int))=Vn (m+j):=by show V.int _=V.int _;congr 1;omega
        have hq:m+j<2*m-1:=by omega
        dsimp only [zau]
        rw [eq]
        refine ⟨_,rfl,_,rfl,a,p,m,t,t,rfl,Same.tup (ydu sx hlH) hF,hp,hp2,by omega,fun b2 H2 hb2' s2 e2=>?_⟩
        have nb2:b2≠l:=fun e=>by rw [e,hrow] at hb2';cases hb2'
        refine ⟨false,b2,rfl,⟨_,SqL.of e2⟩,?_⟩
        refine zbb (zbC (K:=K) (b:=false) (l:=b2) (xs:=digL p m t)) (fun k σ H'=>∃s7 s8 s9 s10 s12,σ=[some (.ref a),some (Vn x),some (Vn y),some (Vn p),some (Vn m),some (Vn t),some (.ref l),s7,s8,s9,s10,some (Vn (m+j)),s12]∧yan l l H H'∧H' b2=some (.lst (digL p m t))∧
          H' l=some (.lst (rowL p (2*m-1) fun i=>c i+if j≤i∧i<j+k then c (m+j)*dg p (i-j) t else 0))) ⟨s7,s8,s9,s10,s12,rfl,sx.trans (Same.x s2),e2,?_⟩ ?_ ?_ ?_
        · rw [s2 _ _ hrow]
          congr 2
          refine ybC fun i _=>?_
          rw [if_neg (by omega)];rfl
        · rintro i σ H' _ ⟨s7,s8,s9,s10,s12,rfl,_,h,_⟩;exact SqL.of h
        · rintro k v σ H' H'' hk ⟨s7,s8,s9,s10,s12,rfl,sx,hc,hrow⟩ ⟨T,u,rfl,eu,hT,rfl⟩
          rw [zbO] at hk
          rw [zdm hk] at eu;cases eu
          refine ⟨T,_,rfl,SqT.of zab,rfl,_,_,rfl,_,_,rfl,rfl,?_⟩
          have sx3:yan l l H (upd H' T (.tup [.int k,Vn (dg p k t)])):=yfd sx hT
          have hc3:(upd H' T (.tup [.int k,Vn (dg p k t)])) b2=some (.lst (digL p m t)):=by rw [yag (zaf hc hT)];exact hc
          have hr3:=(yag (o:=.tup [.int k,Vn (dg p k t)]) (zaf hrow hT)).trans hrow
          generalize upd H' T (.tup [.int k,Vn (dg p k t)])=G at sx3 hc3 hr3 ⊢
          have hjk:j+k<2*m-1:=by omega
          have hmp:∀z,z%p<p:=fun z=>Nat.mod_lt _ (by omega)
          refine ⟨_,rfl,_,rfl,_,_,rfl,rfl,?_⟩
          refine ⟨_,rfl,_,_,rfl,rfl,?_⟩
          have eat:V.int (((m+j:Nat):Int)-(m:Int)+((k:Nat):Int))=Vn (j+k):=by show V.int _=V.int _;congr 1;omega
          dsimp only [zau]
          rw [eat]
          refine ⟨_,rfl,_,rfl,l,_,_,_,rfl,rfl,SqL.of hr3,zd2 _ hjk rfl,?_⟩
          refine ⟨_,rfl,_,rfl,l,_,_,_,rfl,rfl,SqL.of hr3,zd2 _ hq rfl,?_⟩
          have hmq:=hmp (c (m+j)+if j≤m+j∧m+j<j+k then c (m+j)*dg p (m+j-j) t else 0)
          refine ⟨_,rfl,_,_,rfl,rfl,.inl ⟨by omega,by omega⟩,?_⟩
          refine ⟨_,_,rfl,rfl,?_⟩
          refine ⟨_,rfl,_,_,rfl,rfl,by show (0:Int)<(p:Int);omega,?_⟩
          refine ⟨_,rfl,_,rfl,?_⟩
          refine ⟨l,_,_,j+k,rfl,rfl,hr3,zff (by rw [zb1];exact hjk) rfl,?_⟩
          refine ⟨s7,_,_,s10,_,rfl,ydS sx3,by rw [yag nb2];exact hc3,?_⟩
          rw [zab]
          congr 2
          refine yfm (v:=(c (m+j)+if j≤m+j∧m+j<j+k then c (m+j)*dg p (m+j-j) t else 0)%p*dg p k t) hjk fun i hi=>?_
          by_cases e:i=j+k
          · subst e
            rw [if_pos rfl,if_pos (by omega),if_neg (by omega),if_neg (by omega),Nat.add_zero,Nat.add_zero,show j+k-j=k by omega,Nat.mod_add_mod]
            exact ybH rfl (ydp (Nat.mod_mod _ _).symm rfl)
          · rw [if_neg e]
            congr 2
            by_cases h2:j≤i∧i<j+k
            · rw [if_pos h2,if_pos (by omega)]
            · rw [if_neg h2,if_neg (by omega)]
        · rintro σ H' ⟨s7,s8,s9,s10,s12,rfl,sx,hc,hrow⟩
          refine ⟨s7,s8,s9,s10,_,s12,rfl,sx,_,hrow,?_⟩
          rw [←hred,hj,show m-1-(i+1)=j by omega]
          show _=redF m (fun i=>dg p i t) j (zbJ m (fun i=>dg p i t) (m+j) c)
          congr 1
          funext z
          unfold zbJ
          rw [zbO,show m+j-m=j by omega]
          congr 1
          by_cases h2:j≤z∧z<j+m
          · rw [if_pos h2,if_pos (by omega)]
          · rw [if_neg h2,if_neg (by omega)]
      · rintro σ H' ⟨s7,s8,s9,s10,s11,s12,rfl,sx,c,hrow,hred⟩
        refine hD _ _ ⟨s7,s8,s9,s10,s11,s12,rfl,sx,c,hrow,fun i hi=>?_⟩
        rw [show m-1-(2*(m:Int)-2-((m:Int)-1)).toNat=0 by omega] at hred
        have e:=congrFun hred i
        have e2:=zeA (t:=fun i=>dg p i t) hm (m-1) (fun i=>dg p i x) (fun i=>dg p i y) (fun z hz=>yax hp hy hz) i hi
        rw [show m-1+1=m by omega] at e2
        exact e.trans e2
  · intro D' _ _ _ hD
    refine ⟨_,rfl,_,rfl,a,p,m,t,x,rfl,Same.tup ((zac hl0 _).trans (zac hl _)) hF,hp,hp2,by omega,fun b1 H1 hb1 s1 e1=>?_⟩
    have hl1:H1 l=some (.lst (rowL p (2*m-1) fun _=>0)):=s1 _ _ zab
    have nb1:b1≠l:=fun e=>by rw [e,zab] at hb1;cases hb1
    have sx1:yan l l H H1:=Same.x (((zac hl0 _).trans (zac hl _)).trans s1)
    refine ⟨false,b1,rfl,⟨_,SqL.of e1⟩,?_⟩
    refine zbb (zbC (K:=K) (b:=false) (l:=b1) (xs:=digL p m x)) (fun j σ H'=>∃s7 s8 s9 s10 s11 s12,σ=[some (.ref a),some (Vn x),some (Vn y),some (Vn p),some (Vn m),some (Vn t),some (.ref l),s7,s8,s9,s10,s11,s12]∧yan l l H H'∧H' b1=some (.lst (digL p m x))∧
      H' l=some (.lst (rowL p (2*m-1) fun i=>sumN j fun j'=>dg p j' x*shN j' (fun i=>dg p i y) i))) ⟨none,none,none,none,none,none,rfl,sx1,e1,hl1⟩ ?_ ?_ ?_
    · rintro i σ H' _ ⟨s7,s8,s9,s10,s11,s12,rfl,_,h,_⟩;exact SqL.of h
    · rintro j v σ H' H'' hj ⟨s7,s8,s9,s10,s11,s12,rfl,sx,hb,hrow⟩ ⟨T,u,rfl,eu,hT,rfl⟩
      rw [zbO] at hj
      rw [zdm hj] at eu;cases eu
      refine ⟨T,_,rfl,SqT.of zab,rfl,_,_,rfl,_,_,rfl,rfl,?_⟩
      have sx2:yan l l H (upd H' T (.tup [.int j,Vn (dg p j x)])):=yfd sx hT
      have hb2:(upd H' T (.tup [.int j,Vn (dg p j x)])) b1=some (.lst (digL p m x)):=by rw [yag (zaf hb hT)];exact hb
      have hr2:(upd H' T (.tup [.int j,Vn (dg p j x)])) l=some (.lst (rowL p (2*m-1) fun i=>sumN j fun j'=>dg p j' x*shN j' (fun i=>dg p i y) i)):=by rw [yag (zaf hrow hT)];exact hrow
      generalize upd H' T (.tup [.int j,Vn (dg p j x)])=G at sx2 hb2 hr2 ⊢
      refine ⟨_,rfl,_,rfl,a,p,m,t,y,rfl,Same.tup (ydu sx2 hlH) hF,hp,hp2,by omega,fun b2 H2 hb2' s2 e2=>?_⟩
      have nb2:b2≠l:=fun e=>by rw [e,hr2] at hb2';cases hb2'
      refine ⟨false,b2,rfl,⟨_,SqL.of e2⟩,?_⟩
      refine zbb (zbC (K:=K) (b:=false) (l:=b2) (xs:=digL p m y)) (fun k σ H'=>∃s9 s10 s11 s12,σ=[some (.ref a),some (Vn x),some (Vn y),some (Vn p),some (Vn m),some (Vn t),some (.ref l),some (Vn j),some (Vn (dg p j x)),s9,s10,s11,s12]∧yan l l H H'∧H' b1=some (.lst (digL p m x))∧H' b2=some (.lst (digL p m y))∧
        H' l=some (.lst (rowL p (2*m-1) fun i=>sumN j (fun j'=>dg p j' x*shN j' (fun i=>dg p i y) i)+if j≤i∧i<j+k then dg p j x*dg p (i-j) y else 0))) ⟨s9,s10,s11,s12,rfl,sx2.trans (Same.x s2),s2 _ _ hb2,e2,?_⟩ ?_ ?_ ?_
      · rw [s2 _ _ hr2]
        congr 2
        refine ybC fun i _=>?_
        rw [if_neg (by omega)];rfl
      · rintro i σ H' _ ⟨s9,s10,s11,s12,rfl,_,_,h,_⟩;exact SqL.of h
      · rintro k v σ H' H'' hk ⟨s9,s10,s11,s12,rfl,sx,hb,hc,hrow⟩ ⟨T,u,rfl,eu,hT,rfl⟩
        rw [zbO] at hk
        rw [zdm hk] at eu;cases eu
        refine ⟨T,_,rfl,SqT.of zab,rfl,_,_,rfl,_,_,rfl,rfl,?_⟩
        have sx3:yan l l H (upd H' T (.tup [.int k,Vn (dg p k y)])):=yfd sx hT
        have hb3:(upd H' T (.tup [.int k,Vn (dg p k y)])) b1=some (.lst (digL p m x)):=by rw [yag (zaf hb hT)];exact hb
        have hc3:(upd H' T (.tup [.int k,Vn (dg p k y)])) b2=some (.lst (digL p m y)):=by rw [yag (zaf hc hT)];exact hc
        have hr3:=(yag (o:=.tup [.int k,Vn (dg p k y)]) (zaf hrow hT)).trans hrow
        generalize upd H' T (.tup [.int k,Vn (dg p k y)])=G at sx3 hb3 hc3 hr3 ⊢
        have d1:=zhb hp j x
        have hjk:j+k<2*m-1:=by omega
        refine ⟨_,rfl,_,rfl,_,rfl,_,_,rfl,rfl,?_⟩
        refine ⟨l,_,_,_,rfl,rfl,SqL.of hr3,zd2 _ hjk rfl,?_⟩
        refine ⟨_,rfl,_,rfl,_,_,rfl,rfl,.inl ⟨by show -(2^64:Int)<((dg p j x:Nat):Int);omega,by show ((dg p j x:Nat):Int)<2^64;omega⟩,?_⟩
        refine ⟨_,_,rfl,rfl,?_⟩
        refine ⟨_,rfl,_,_,rfl,rfl,by show (0:Int)<(p:Int);omega,?_⟩
        refine ⟨_,rfl,_,rfl,_,rfl,_,_,rfl,rfl,?_⟩
        refine ⟨l,_,_,j+k,rfl,rfl,hr3,zff (by rw [zb1];exact hjk) rfl,?_⟩
        refine ⟨_,_,s11,s12,rfl,ydS sx3,by rw [yag nb1];exact hb3,by rw [yag nb2];exact hc3,?_⟩
        rw [zab]
        congr 2
        refine yfm (v:=dg p j x*dg p k y) hjk fun i hi=>?_
        by_cases e:i=j+k
        · subst e
          rw [if_pos rfl,if_pos (by omega),if_neg (by omega),Nat.add_zero,show j+k-j=k by omega,Nat.mod_add_mod]
        · rw [if_neg e]
          congr 2
          by_cases h2:j≤i∧i<j+k
          · rw [if_pos h2,if_pos (by omega)]
          · rw [if_neg h2,if_neg (by omega)]
      · rintro σ H' ⟨s9,s10,s11,s12,rfl,sx,hb,hc,hrow⟩
        refine ⟨_,_,s9,s10,s11,s12,rfl,sx,hb,?_⟩
        rw [hrow,zbO]
        congr 2
        refine ybC fun i _=>?_
        rw [sumN]
        congr 2
        unfold shN
        by_cases h1:j≤i
        · rw [if_pos h1]
          by_cases h2:i<j+m
          · rw [if_pos ⟨h1,h2⟩]
          · rw [if_neg (by omega)];show 0=dg p j x*dg p (i-j) y;rw [yax hp hy (by omega),Nat.mul_zero]
        · rw [if_neg h1,if_neg (by omega),Nat.mul_zero]
    · rintro σ H' ⟨s7,s8,s9,s10,s11,s12,rfl,sx,hb,hrow⟩
      refine hD _ _ ⟨s7,s8,s9,s10,s11,s12,rfl,sx,?_⟩
      rw [hrow,zbO]
      congr 2
      exact ybC fun i _=>by rw [zdE]
end
end My
end
section
-- text: P4
namespace My
open PySem L2 Dg
section
variable {P:Program} {w:World} {K:PySem.W.Frag} {mg:Str→Option Value} {base:Heap} {f:Addr} {fd:FuncData}
theorem yhl {b:Bool} (h:¬ (!b)=true):b=true:=by cases b <;> simp_all
def zfE (K:PySem.W.Frag):Sp:=fun vs H Q _=>∃(a:Addr) (p m t:Nat),vs=[.ref a]∧Fld K H a p m t∧2≤p∧1≤m∧p^m≤64∧t<p^m∧
  ∀(b:Bool) H',Same H H'→(b=true→∀x y,0<x→x<p^m→x<p^(m/2+1)→0<y→y<p^m→mul p m t x y≠0)→Q (.bl b) H'
theorem yaE:yaj ["_law_field_here","_law_p","_law_m","_law_top","_law_many","_law_one"] ["_law_field_here"] (zad zaC):=⟨rfl,rfl,rfl,by decide +kernel,rfl,by decide +kernel,by decide +kernel⟩
theorem ygA (B:Bl mg) (h__law_raised:Has P w K mg base 1 "_law_raised" ["_law_one","_law_many"] zap) (h__law_product:Has P w K mg base 2 "_law_product" ["_law_field_here","_law_one","_law_other"] (ych K)) (F:Fun K "_law_is_good" "_law_is_good" zaC f fd):FnOk P w K mg base CX0 3 f fd ["_law_field_here"] (zfE K):=by
  refine F.ok yaE (fun vs H Q E h=>?_) (fun cdv A outer s H vs Q E hr h=>?_)
  · obtain ⟨a,p,m,t,rfl,_⟩:=h;rfl
  obtain ⟨a,p,m,t,rfl,hF,hp,hm,hpm,ht,q⟩:=h
  have hp2:=p_le hp hm hpm
  have hm6:=m_le hp hpm
  have hpos:0<p^m:=Nat.pow_pos (by omega)
  refine ⟨_,(@yab _ _ _ _ _ (@za6 _ _ _ _ _ _ (pv 0) (@ya8 _ _ _ _ _ _ rfl (@zah _ _ _ _ _ (@yae _ _ 1 _ yaE.nd rfl (Or.inl rfl) (by trivial)) (@zah _ _ _ _ _ (@yae _ _ 2 _ yaE.nd rfl (Or.inl rfl) (by trivial)) (@zah _ _ _ _ _ (@yae _ _ 3 _ yaE.nd rfl (Or.inl rfl) (by trivial)) yaH (by rfl)) (by rfl)) (by rfl)) (by rfl) (by rfl)) (by rfl) (by rfl) (by rfl)) (@yab _ _ _ _ _ (@zag _ _ 4 _ _ _ _ yaE.nd rfl (Or.inl rfl) (@yad _ _ _ _ _ _ _ _ _ _ _ h__law_raised hr (by decide) rfl (@zaa _ _ _ _ _ (pv 1) (@zaa _ _ _ _ _ (pv 2) yaa (by rfl)) (by rfl)) (by decide) (by rfl) (by rfl)) (by rfl) (by trivial)) (@yab _ _ _ _ _ (@yaD _ _ _ _ _ _ _ _ PassesOwn.never rfl (@ybP _ _ _ _ _ _ _ rfl (B "range" (by decide)) (@zaa _ _ _ _ _ yac (@zaa _ _ _ _ _ (@zak _ _ _ _ _ _ _ _ _ (ydC rfl) rfl (B "min" (by decide)) zcQ (@zaa _ _ _ _ _ (pv 4) (@zaa _ _ _ _ _ (@yad _ _ _ _ _ _ _ _ _ _ _ h__law_raised hr (by decide) rfl (@zaa _ _ _ _ _ (pv 1) (@zaa _ _ _ _ _ (@yaf _ _ _ _ _ _ _ _ yar (@yaf _ _ _ _ _ _ _ _ ycq (pv 2) yac) yac) yaa (by rfl)) (by rfl)) (by decide) (by rfl) (by rfl)) yaa (by rfl)) (by rfl)) (by decide) (by decide) (by rfl) (by rfl)) yaa (by rfl)) (by rfl)) (by rfl) (by rfl)) (@yae _ _ 5 _ yaE.nd rfl (Or.inr rfl) (by trivial)) (@zae _ _ _ (@yba _ _ _ _ _ _ _ _ (@yep _ _ _ _ (@zdy _ _ _ (@zak _ _ _ _ _ _ _ _ _ (zdt rfl) rfl (B "all" (by decide)) PyProof.Rows.boot_all (@zaa _ _ _ _ _ (@yaM _ _ _ _ _ _ _ ["_law_other"] ["_law_field_here","_law_one"] [0,5] _ _ _ _ (id (α:=CSc ["_law_field_here","_law_p","_law_m","_law_top","_law_many","_law_one"] (zad zaC) ["_law_other"] ["_law_field_here","_law_one"] [0,5] _) ⟨by rfl,by decide +kernel,by decide +kernel,by decide +kernel,by decide +kernel,by rfl,by decide +kernel⟩) rfl (@ybP _ _ _ _ _ _ _ rfl (B "range" (by decide)) (@zaa _ _ _ _ _ yac (@zaa _ _ _ _ _ (pv 4) yaa (by rfl)) (by rfl)) (by rfl) (by rfl)) (fun cl C fp s H=>(@yae _ _ 0 _ (by show List.Nodup (["_law_other","_law_field_here","_law_one"]:List Str);decide +kernel) rfl (Or.inl rfl) (by trivial))) (fun _ _ _ _ _=>yaL) (fun _ _ _ _ _=>(@ycn _ _ _ _ _ _ _ _ ycb (@yad _ _ _ _ _ _ _ _ _ _ _ h__law_product hr (by decide) rfl (@zaa _ _ _ _ _ (pv 1) (@zaa _ _ _ _ _ (pv 2) (@zaa _ _ _ _ _ (pv 0) yaa (by rfl)) (by rfl)) (by rfl)) (by decide) (by rfl) (by rfl)) yac (yal _))) (by intro _;rfl)) yaa (by rfl)) (by decide) (by decide) (by rfl) (by rfl)) (by intro _;rfl))) (@zae _ _ _ (@zal _ _ _ _ yci)) zax)) (by intro _;rfl)) (@zae _ _ _ (@zal _ _ _ _ yci))))),?_⟩
  refine ⟨_,rfl,a,_,rfl,hF,rfl,_,_,rfl,_,_,rfl,_,_,rfl,rfl,?_⟩
  refine ⟨_,rfl,_,rfl,p,m,rfl,hp2,by omega,?_⟩
  refine ⟨_,rfl,_,rfl,_,rfl,_,_,rfl,rfl,⟨by show (0:Int)<2;decide,by show (2:Int)<2^64;decide⟩,?_⟩
  refine ⟨_,_,rfl,rfl,?_⟩
  refine ⟨p,m/2+1,rfl,hp2,by omega,?_⟩
  refine ⟨_,_,rfl,?_⟩
  generalize hj:(if (((p^(m/2+1):Nat):Int)<((p^m:Nat):Int)) then ((p^(m/2+1):Nat):Int) else ((p^m:Nat):Int))=j
  have hj2:0≤j∧j≤((p^m:Nat):Int)∧∀x:Nat,x<p^m→x<p^(m/2+1)→(x:Int)<j:=by
    rw [←hj];split
    · exact ⟨by omega,by omega,fun x h1 h2=>by omega⟩
    · exact ⟨by omega,by omega,fun x h1 h2=>by omega⟩
  refine ⟨1,j,rfl,⟨by omega,by omega,by omega,by omega⟩,?_⟩
  refine yaI (fun i σ H'=>Same H H'∧(∀x y,0<x→x<1+i→0<y→y<p^m→mul p m t x y≠0)∧∃s,σ=[some (.ref a),some (Vn p),some (Vn m),some (Vn t),some (Vn (p^m)),s]) ⟨Same.refl _,fun x y h1 h2=>by omega,none,rfl⟩ ?_ ?_
  · rintro i σ H' hi ⟨sm,hno,s,rfl⟩
    refine ⟨_,rfl,1,((p^m:Nat):Int),rfl,⟨by omega,by omega,by omega,by omega⟩,?_⟩
    refine zar zaK (fun k acc H1=>Same H H1∧acc=((List.range k).map fun j=>decide (0<mul p m t (1+i) (1+j))).map V.bl) ⟨sm,rfl⟩ (fun _ _ _ _ _=>trivial) ?_ ?_ ?_
    · rintro k acc H1 hk ⟨_,rfl⟩
      rw [List.length_map,List.length_map,List.length_range];exact Nat.lt_of_le_of_lt (show k≤1000 by omega) (zam (Nat.le_refl _))
    · rintro k acc x H1 H2 hk ⟨sm1,rfl⟩ ⟨rfl,rfl⟩
      refine ⟨_,rfl,_,rfl,_,rfl,a,p,m,t,1+i,1+k,rfl,Same.tup sm1 hF,hp,hm,hpm,ht,by omega,by omega,fun r H3 s3 br hr=>?_⟩
      have e:=zdc hp hm br hr
      subst e
      refine ⟨_,_,rfl,rfl,sm1.trans s3,?_⟩
      rw [List.range_succ,List.map_append,List.map_append]
      refine congrArg (_++[V.bl ·]) ?_
      show decide ((0:Int)<((mul p m t (1+i) (1+k):Nat):Int))=decide (0<mul p m t (1+i) (1+k))
      exact decide_eq_decide.mpr (by omega)
    · rintro acc H1 ⟨sm1,rfl⟩ D hD
      refine ⟨D,_,rfl,SqL.of zab,_,rfl,?_⟩
      refine ite2 (fun c=>?_) (fun c=>?_)
      · exact q _ _ (sm1.trans (zac hD _)) (fun h=>by cases h)
      · refine ⟨sm1.trans (zac hD _),fun x y h1 h2 h3 h4=>?_,_,rfl⟩
        by_cases hx:x<1+i
        · exact hno x y h1 hx h3 h4
        · have c2:((List.range (((p^m:Nat):Int)-1).toNat).map fun j=>decide (0<mul p m t (1+i) (1+j))).all id=true:=yhl c
          rw [List.all_eq_true] at c2
          have c3:=c2 (decide (0<mul p m t (1+i) (1+(y-1)))) (List.mem_map.mpr ⟨y-1,List.mem_range.mpr (by omega),rfl⟩)
          have c4:0<mul p m t (1+i) (1+(y-1)):=of_decide_eq_true c3
          rw [show 1+i=x by omega,show 1+(y-1)=y by omega] at c4
          omega
  · rintro σ H' ⟨sm,hno,s,rfl⟩
    refine q _ _ sm fun _ x y h1 h2 h3 h4 h5=>hno x y h1 ?_ h4 h5
    have:=hj2.2.2 x h2 h3
    omega
end
end My
end
section
-- text: P5
namespace My
open PySem L2 Dg
theorem zgf {p m:Nat} (h:(p,m)∈Dg.menu):(p,1)∈Dg.menu:=(by decide +kernel:∀c∈Dg.menu,(c.1,1)∈Dg.menu) (p,m) h
def ze4:List (Int×Int)→TA
  | []=>tNil
  | (p,m)::r=>ycX (tTup (ycX (tC (.int p)) (ycX (tC (.int m)) tNil))) (ze4 r)
@[irreducible] noncomputable def yde (ps:List (Int×Int)):TA:=ze4 ps
theorem zds (ps:List (Int×Int)):yde ps=ze4 ps:=by unfold yde;rfl
theorem zdX:yde []=tNil:=by rw [zds];rfl
theorem zc5 {p m:Int} {r:List (Int×Int)}:yde ((p,m)::r)=ycX (tTup (ycX (tC (.int p)) (ycX (tC (.int m)) tNil))) (yde r):=by rw [zds,zds];rfl
section
variable {X:Cx}
theorem zcz:PA X [] (yde []):=by rw [zdX];exact yaa
theorem zao {p m:Int} {k1 k2 c:Nat} {p1 p2 p3:Pos} {es:List Expr} {r:List (Int×Int)} (h:PA X es (yde r)):PA X (.Tuple [.Constant (.int p) k1 p1,.Constant (.int m) k2 p2] c p3::es) (yde ((p,m)::r)):=by
  rw [zc5]
  exact zaa (zaR (zaa yac (zaa yac yaa))) h
end
def yc5 (H:Hp) (t:Addr):Prop:=∃p m:Nat,H t=some (.tup [Vn p,Vn m])∧(p,m)∈Dg.menu
theorem yc5.same {H H':Hp} {t:Addr} (h:yc5 H t) (s:∀o,H t=some o→H' t=some o):yc5 H' t:=by
  obtain ⟨p,m,e,q⟩:=h;exact ⟨p,m,s _ e,q⟩
theorem ycF:∀(ps:List (Int×Int)) (σ:St) (H:Hp) (Q:List V→Hp→Prop),(∀x∈ps,∃p m:Nat,x=((p:Int),(m:Int))∧(p,m)∈Dg.menu)→
    (∀(ts:List Addr) H',Same H H'→ts.length=ps.length→(∀t∈ts,H t=none∧yc5 H' t)→Q (ts.map V.ref) H')→yde ps σ H Q
  | [],σ,H,Q,_,q=>by rw [zdX];exact q [] H (Same.refl _) rfl (fun t ht=>nomatch ht)
  | (p,m)::r,σ,H,Q,hp,q=>by
    rw [zc5]
    refine ⟨szl 2,fun t ht=>?_⟩
    obtain ⟨p',m',e,b⟩:=hp (p,m) List.mem_cons_self
    cases e
    refine ycF r σ _ _ (fun x hx=>hp x (List.mem_cons_of_mem _ hx)) fun ts H' s hl hts=>?_
    refine q (t::ts) H' ((zac ht _).trans s) (by simp [hl]) fun t' ht'=>?_
    rcases List.mem_cons.mp ht' with e|e
    · subst e;exact ⟨ht,p',m',s _ _ zab,b⟩
    · exact ⟨(zac ht _).free (hts t' e).1,(hts t' e).2⟩
structure Menu (a g:Addr) (H:Hp) (l:Addr) (n:Nat):Prop where
  ex:∃ts:List Addr,H l=some (.lst (ts.map V.ref))∧ts.length=n∧∀t∈ts,t≠a∧t≠g∧yc5 H t
  na:l≠a
  ng:l≠g
theorem Menu.x {a g l:Addr} {n:Nat} {H H':Hp} (h:Menu a g H l n) (s:yan a g H H'):Menu a g H' l n:=by
  obtain ⟨⟨ts,h1,h2,h3⟩,na,ng⟩:=h
  exact ⟨⟨ts,s _ _ na ng h1,h2,fun t ht=>⟨(h3 t ht).1,(h3 t ht).2.1,(h3 t ht).2.2.same fun o e=>s _ _ (h3 t ht).1 (h3 t ht).2.1 e⟩⟩,na,ng⟩
section
variable {P:Program} {w:World} {K:PySem.W.Frag} {mg:Str→Option Value} {base:Heap} {f:Addr} {fd:FuncData}
def yb8:List Nat:=[17,19,23,29,31,37,41,43,47,53,59]
def yer:Sp:=fun vs H Q _=>∃(a g:Addr),vs=[.ref a]∧Pu H a g∧∀(r:Addr) (p m t:Nat) H',r≠a→r≠g→H r=none→H' r=some (.tup [Vn p,Vn m,Vn t])→Good p m t→Pu H' a g→yan a g H H'→Q (.ref r) H'
theorem zas:yaj ["_law_purse_here","_law_some","_law_size","_law_p","_law_m","_law_many","_law_start","_law_turn","_law_field_here"] ["_law_purse_here"] (zad zaQ):=⟨rfl,rfl,rfl,by decide +kernel,rfl,by decide +kernel,by decide +kernel⟩
theorem Pu.lt {H:Hp} {a g l:Addr} (h:Pu H a g) (hl:H l=none):l≠a∧l≠g:=by
  obtain ⟨ns,s,t,h1,h2⟩:=h
  exact ⟨Ne.symm (zaf h1 hl),Ne.symm (zaf h2 hl)⟩
theorem zgl (B:Bl mg) (h__law_pick:Has P w K mg base 1 "_law_pick" ["_law_purse_here","_law_many"] zbN) (h__law_raised:Has P w K mg base 1 "_law_raised" ["_law_one","_law_many"] zap) (h__law_is_good:Has P w K mg base 3 "_law_is_good" ["_law_field_here"] (zfE K)) (F:Fun K "_law_field" "_law_field" zaQ f fd):FnOk P w K mg base CX0 4 f fd ["_law_purse_here"] yer:=by
  refine F.ok zas (fun vs H Q E h=>?_) (fun cdv A outer s H vs Q E hr h=>?_)
  · obtain ⟨a,g,rfl,_⟩:=h;rfl
  obtain ⟨a,g,rfl,hP,q⟩:=h
  refine ⟨_,(@yab _ _ _ _ _ (@zag _ _ 1 _ _ _ _ zas.nd rfl (Or.inl rfl) (@zaE _ _ _ _ (@zao _ _ _ _ _ _ _ _ _ _ _ (@zao _ _ _ _ _ _ _ _ _ _ _ (@zao _ _ _ _ _ _ _ _ _ _ _ (@zao _ _ _ _ _ _ _ _ _ _ _ (@zao _ _ _ _ _ _ _ _ _ _ _ (@zao _ _ _ _ _ _ _ _ _ _ _ (@zao _ _ _ _ _ _ _ _ _ _ _ (@zao _ _ _ _ _ _ _ _ _ _ _ (@zao _ _ _ _ _ _ _ _ _ _ _ (@zao _ _ _ _ _ _ _ _ _ _ _ (@zao _ _ _ _ _ _ _ _ _ _ _ (@zao _ _ _ _ _ _ _ _ _ _ _ zcz))))))))))))) (by rfl) (by trivial)) (@yab _ _ _ _ _ (@zag _ _ 2 _ _ _ _ zas.nd rfl (Or.inl rfl) (@yad _ _ _ _ _ _ _ _ _ _ _ h__law_pick hr (by decide) rfl (@zaa _ _ _ _ _ (pv 0) (@zaa _ _ _ _ _ yac yaa (by rfl)) (by rfl)) (by decide) (by rfl) (by rfl)) (by rfl) (by trivial)) (@yab _ _ _ _ _ (@yba _ _ _ _ _ _ _ _ (@zai _ _ _ _ _ _ _ _ zbr (pv 2) yac (yal _)) (@zae _ _ _ (@zag _ _ 1 _ _ _ _ zas.nd rfl (Or.inl rfl) (@zaE _ _ _ _ (@zao _ _ _ _ _ _ _ _ _ _ _ (@zao _ _ _ _ _ _ _ _ _ _ _ (@zao _ _ _ _ _ _ _ _ _ _ _ (@zao _ _ _ _ _ _ _ _ _ _ _ zcz))))) (by rfl) (by trivial))) zax) (@yab _ _ _ _ _ (@yba _ _ _ _ _ _ _ _ (@zai _ _ _ _ _ _ _ _ zbr (pv 2) yac (yal _)) (@zae _ _ _ (@zbA _ 1 _ _ _ _ _ _ _ _ _ ["_law_p"] [] [] _ _ _ _ zas.nd rfl (Or.inl rfl) (id (α:=CSc ["_law_purse_here","_law_some","_law_size","_law_p","_law_m","_law_many","_law_start","_law_turn","_law_field_here"] (zad zaQ) ["_law_p"] [] [] _) ⟨by rfl,by decide +kernel,by decide +kernel,by decide +kernel,by decide +kernel,by rfl,by decide +kernel⟩) rfl (@ya7 _ _ _ _ (@zaE _ _ _ _ (@zaa _ _ _ _ _ yac (@zaa _ _ _ _ _ yac (@zaa _ _ _ _ _ yac (@zaa _ _ _ _ _ yac (@zaa _ _ _ _ _ yac (@zaa _ _ _ _ _ yac (@zaa _ _ _ _ _ yac (@zaa _ _ _ _ _ yac (@zaa _ _ _ _ _ yac (@zaa _ _ _ _ _ yac (@zaa _ _ _ _ _ yac yaa (by rfl)) (by rfl)) (by rfl)) (by rfl)) (by rfl)) (by rfl)) (by rfl)) (by rfl)) (by rfl)) (by rfl)) (by rfl)))) (fun cl C fp s H=>(@yae _ _ 0 _ (by show List.Nodup (["_law_p"]:List Str);decide +kernel) rfl (Or.inl rfl) (by trivial))) (fun _ _ _ _ _=>yaL) (fun _ _ _ _ _=>(@zaR _ _ _ _ _ (@zaa _ _ _ _ _ (pv 0) (@zaa _ _ _ _ _ yac yaa (by rfl)) (by rfl)))) (by rfl) (by intro _;rfl) (by trivial))) zax) (@yab _ _ _ _ _ (@za6 _ _ _ _ _ _ (@zan _ _ _ _ _ _ _ zaq (pv 1) (@yad _ _ _ _ _ _ _ _ _ _ _ h__law_pick hr (by decide) rfl (@zaa _ _ _ _ _ (pv 0) (@zaa _ _ _ _ _ (@zak _ _ _ _ _ _ _ _ _ yah rfl (B "len" (by decide)) PySem.boot_len (@zaa _ _ _ _ _ (pv 1) yaa (by rfl)) (by decide) (by decide) (by rfl) (by rfl)) yaa (by rfl)) (by rfl)) (by decide) (by rfl) (by rfl)) (fun _ _=>rfl)) (@ya8 _ _ _ _ _ _ rfl (@zah _ _ _ _ _ (@yae _ _ 3 _ zas.nd rfl (Or.inl rfl) (by trivial)) (@zah _ _ _ _ _ (@yae _ _ 4 _ zas.nd rfl (Or.inl rfl) (by trivial)) yaH (by rfl)) (by rfl)) (by rfl) (by rfl)) (by rfl) (by rfl) (by rfl)) (@yab _ _ _ _ _ (@zag _ _ 5 _ _ _ _ zas.nd rfl (Or.inl rfl) (@yad _ _ _ _ _ _ _ _ _ _ _ h__law_raised hr (by decide) rfl (@zaa _ _ _ _ _ (pv 3) (@zaa _ _ _ _ _ (pv 4) yaa (by rfl)) (by rfl)) (by decide) (by rfl) (by rfl)) (by rfl) (by trivial)) (@yab _ _ _ _ _ (@zag _ _ 6 _ _ _ _ zas.nd rfl (Or.inl rfl) (@yad _ _ _ _ _ _ _ _ _ _ _ h__law_pick hr (by decide) rfl (@zaa _ _ _ _ _ (pv 0) (@zaa _ _ _ _ _ (pv 5) yaa (by rfl)) (by rfl)) (by decide) (by rfl) (by rfl)) (by rfl) (by trivial)) (@yab _ _ _ _ _ (@yaD _ _ _ _ _ _ _ _ PassesOwn.never rfl (@yau _ _ _ _ _ _ rfl (B "range" (by decide)) (@zaa _ _ _ _ _ (pv 5) yaa (by rfl)) (by rfl)) (@yae _ _ 7 _ zas.nd rfl (Or.inl rfl) (by trivial)) (@yab _ _ _ _ _ (@zag _ _ 8 _ _ _ _ zas.nd rfl (Or.inl rfl) (@zaR _ _ _ _ _ (@zaa _ _ _ _ _ (pv 3) (@zaa _ _ _ _ _ (pv 4) (@zaa _ _ _ _ _ (@yaf _ _ _ _ _ _ _ _ zaz (@yaf _ _ _ _ _ _ _ _ yar (pv 6) (pv 7)) (pv 5)) yaa (by rfl)) (by rfl)) (by rfl))) (by rfl) (by trivial)) (@zae _ _ _ (@yba _ _ _ _ _ _ _ _ (@PW.pt _ _ _ (@yd4 _ _ _ _ _ _ _ (@zai _ _ _ _ _ _ _ _ zbr (pv 4) yac (yal _)) (@zcJ _ _ _ _ (@zdy _ _ _ (@yad _ _ _ _ _ _ _ _ _ _ _ h__law_is_good hr (by decide) rfl (@zaa _ _ _ _ _ (pv 8) yaa (by rfl)) (by decide) (by rfl) (by rfl)) (by intro _;rfl))))) (@zae _ _ _ (@zal _ _ _ _ (pv 8))) zax))) (by intro _;rfl)) (@zae _ _ _ (@zal _ _ _ _ (@zaR _ _ _ _ _ (@zaa _ _ _ _ _ (pv 3) (@zaa _ _ _ _ _ yac (@zaa _ _ _ _ _ yac yaa (by rfl)) (by rfl)) (by rfl))))))))))))),?_⟩
  refine ycF [(2,1),(2,2),(2,3),(2,4),(3,1),(3,2),(3,3),(5,1),(5,2),(7,1),(11,1),(13,1)] _ H _ ?_ fun ts H0 s0 hts hpair=>?_
  · intro x hx
    simp only [List.mem_cons,List.not_mem_nil,or_false] at hx
    rcases hx with rfl|rfl|rfl|rfl|rfl|rfl|rfl|rfl|rfl|rfl|rfl|rfl
    · exact ⟨2,1,rfl,by decide +kernel⟩
    · exact ⟨2,2,rfl,by decide +kernel⟩
    · exact ⟨2,3,rfl,by decide +kernel⟩
    · exact ⟨2,4,rfl,by decide +kernel⟩
    · exact ⟨3,1,rfl,by decide +kernel⟩
    · exact ⟨3,2,rfl,by decide +kernel⟩
    · exact ⟨3,3,rfl,by decide +kernel⟩
    · exact ⟨5,1,rfl,by decide +kernel⟩
    · exact ⟨5,2,rfl,by decide +kernel⟩
    · exact ⟨7,1,rfl,by decide +kernel⟩
    · exact ⟨11,1,rfl,by decide +kernel⟩
    · exact ⟨13,1,rfl,by decide +kernel⟩
  refine ⟨by rw [List.length_map,hts];exact szl 12,fun l hl=>?_⟩
  have hP0:Pu (upd H0 l (.lst (ts.map V.ref))) a g:=hP.same (s0.trans (zac hl _))
  have sx0:yan a g H (upd H0 l (.lst (ts.map V.ref))):=Same.x (s0.trans (zac hl _))
  have M0:Menu a g (upd H0 l (.lst (ts.map V.ref))) l 12:=by
    have n1:=(hP.same s0).lt hl
    refine ⟨⟨ts,zab,hts,fun t ht=>?_⟩,n1.1,n1.2⟩
    have n2:=hP.lt (hpair t ht).1
    exact ⟨n2.1,n2.2,(hpair t ht).2.same fun o e=>(zac hl _) _ _ e⟩
  generalize upd H0 l (.lst (ts.map V.ref))=G at hP0 sx0 M0 ⊢
  refine ⟨_,rfl,a,g,8,rfl,hP0,by omega,by omega,fun sz H1 hsz hP1 sx1=>?_⟩
  have sxA:=sx0.trans sx1
  have M1:=M0.x sx1
  dsimp only [zau]
  refine ybh (fun σ H'=>∃l n,0<n∧n≤12∧Menu a g H' l n∧Pu H' a g∧yan a g H H'∧σ=[some (.ref a),some (.ref l),some (Vn sz),none,none,none,none,none,none]) ?_ ?_
  · rintro σ H2 ⟨l,n,hn,hn2,M2,hP2,sx2,rfl⟩
    refine ybh (fun σ H'=>∃l n,0<n∧n≤12∧Menu a g H' l n∧Pu H' a g∧yan a g H H'∧σ=[some (.ref a),some (.ref l),some (Vn sz),none,none,none,none,none,none]) ?_ ?_
    · rintro σ H3 ⟨l,n,hn,hn2,M3,hP3,sx3,rfl⟩
      obtain ⟨ts3,e3,l3,p3⟩:=M3.ex
      refine ⟨_,rfl,_,rfl,_,rfl,l,_,rfl,.inl (SqL.of e3),?_⟩
      refine ⟨a,g,n,by rw [List.length_map,l3];rfl,hP3,hn,by omega,fun i H4 hi hP4 sx4=>?_⟩
      obtain ⟨ts4,e4,l4,p4⟩:=(M3.x sx4).ex
      have hi4:i<ts4.length:=by omega
      refine ⟨l,_,_,.ref (ts4[i]),rfl,rfl,SqL.of e4,yaw (by rw [List.getElem?_map,List.getElem?_eq_getElem hi4];rfl),?_⟩
      obtain ⟨_,_,p,m,ep,hmem⟩:=p4 ts4[i] (List.getElem_mem hi4)
      obtain ⟨hp,hm,hpm⟩:=zbF hmem
      have hp2:=p_le hp hm hpm
      have hm6:=m_le hp hpm
      have hpos:0<p^m:=Nat.pow_pos (by omega)
      refine ⟨ts4[i],_,rfl,SqT.of ep,rfl,_,_,rfl,_,_,rfl,rfl,?_⟩
      refine ⟨_,rfl,_,rfl,p,m,rfl,hp2,by omega,?_⟩
      refine ⟨_,rfl,_,rfl,a,g,p^m,rfl,hP4,hpos,by omega,fun st H5 hst hP5 sx5=>?_⟩
      have sxE:=sx3.trans (sx4.trans sx5)
      refine ⟨_,rfl,((p^m:Nat):Int),rfl,by omega,by omega,?_⟩
      refine yaI (n:=p^m) (fun i σ H'=>Pu H' a g∧yan a g H H'∧∃s7 s8,σ=[some (.ref a),some (.ref l),some (Vn sz),some (Vn p),some (Vn m),some (Vn (p^m)),some (Vn st),s7,s8]) ⟨hP5,sxE,none,none,rfl⟩ ?_ ?_
      · rintro j σ H6 hj ⟨hP6,sx6,s7,s8,rfl⟩
        refine ⟨_,rfl,_,rfl,_,rfl,_,rfl,_,_,rfl,rfl,?_⟩
        refine ⟨_,rfl,_,_,rfl,rfl,by show (0:Int)<((p^m:Nat):Int);omega,?_⟩
        refine ⟨szl 3,fun r hr=>?_⟩
        have nr:=hP6.lt hr
        have hr0:H r=none:=by
          cases e:H r with
          | none=>rfl
          | some o=>rw [sx6 r o nr.1 nr.2 e] at hr;cases hr
        have et:V.int ((((st:Nat):Int)+(0+(j:Int)))%((p^m:Nat):Int))=Vn ((st+j)%p^m):=by show V.int _=V.int _;congr 1;rw [Int.zero_add];rfl
        have hlt:(st+j)%p^m<p^m:=Nat.mod_lt _ hpos
        have hP7:Pu (upd H6 r (.tup [Vn p,Vn m,Vn ((st+j)%p^m)])) a g:=hP6.same (zac hr _)
        have sx7:yan a g H (upd H6 r (.tup [Vn p,Vn m,Vn ((st+j)%p^m)])):=sx6.trans (Same.x (zac hr _))
        dsimp only [zau]
        rw [et]
        refine ⟨_,rfl,rfl,_,rfl,?_⟩
        refine ite2 (fun c=>?_) (fun c=>?_)
        · refine ite2 (fun _=>?_) (fun c=>absurd rfl c)
          have hm1:m=1:=by
            have:=of_decide_eq_true c
            injection this with this
            omega
          exact ⟨_,rfl,q r p m _ _ nr.1 nr.2 hr0 zab ⟨hmem,hlt,.inl hm1⟩ hP7 sx7⟩
        · refine ⟨_,rfl,r,p,m,(st+j)%p^m,rfl,SqT.of zab,hp,hm,hpm,hlt,fun b H8 s8' hb=>?_⟩
          refine ⟨_,rfl,?_⟩
          refine ite2 (fun c2=>?_) (fun _=>?_)
          · exact ⟨_,rfl,q r p m _ _ nr.1 nr.2 hr0 (s8' _ _ zab) ⟨hmem,hlt,.inr (hb c2)⟩ (hP7.same s8') (sx7.trans (Same.x s8'))⟩
          · exact ⟨hP7.same s8',sx7.trans (Same.x s8'),_,_,rfl⟩
      · rintro σ H6 ⟨hP6,sx6,s7,s8,rfl⟩
        refine ⟨_,rfl,szl 3,fun r hr=>?_⟩
        have nr:=hP6.lt hr
        have hr0:H r=none:=by
          cases e:H r with
          | none=>rfl
          | some o=>rw [sx6 r o nr.1 nr.2 e] at hr;cases hr
        exact q r p 1 0 _ nr.1 nr.2 hr0 zab ⟨zgf hmem,by simp;omega,.inl rfl⟩ (hP6.same (zac hr _)) (sx6.trans (Same.x (zac hr _)))
    · intro D' _ _ _ hD
      refine ⟨_,rfl,rfl,_,rfl,?_⟩
      refine ite2 (fun c=>?_) (fun c=>hD _ _ ⟨l,n,hn,hn2,M2,hP2,sx2,rfl⟩)
      refine ⟨szl 11,fun l2 hl2=>?_⟩
      refine ⟨l2,rfl,⟨_,SqL.of zab⟩,?_⟩
      refine zar (yaR (xs:=yb8.map Vn)) (fun k acc H'=>Same (upd H2 l2 (.lst (yb8.map Vn))) H'∧∃ts:List Addr,ts.length=k∧acc=ts.map V.ref∧∀t∈ts,t≠a∧t≠g∧yc5 H' t)
        ⟨Same.refl _,[],rfl,rfl,fun t ht=>nomatch ht⟩ (fun i acc H' _ h=>SqL.of (h.1 _ _ zab)) ?_ ?_ ?_
      · rintro k acc H' hk ⟨_,ts,e,rfl,_⟩
        have hk':k<11:=hk
        rw [List.length_map,e];exact zam (by omega)
      · rintro k acc x H3 H4 hk ⟨s3,ts,e,rfl,hts⟩ ⟨rfl,hx⟩
        obtain ⟨pr,hpr,rfl⟩:∃pr,pr∈yb8∧x=Vn pr:=by
          rw [List.getElem?_map] at hx
          cases e:yb8[k]? with
          | none=>rw [e] at hx;cases hx
          | some pr=>rw [e] at hx;cases hx;exact ⟨pr,List.mem_of_getElem? e,rfl⟩
        have hb:(pr,1)∈Dg.menu:=(by decide +kernel:∀x∈yb8,(x,1)∈Dg.menu) pr hpr
        refine ⟨_,rfl,szl 2,fun t ht=>?_⟩
        have hP3:Pu H4 a g:=hP2.same ((zac hl2 _).trans s3)
        have nt:=hP3.lt ht
        refine ⟨s3.trans (zac ht _),ts++[t],by simp [e],by simp,fun t' ht'=>?_⟩
        rcases List.mem_append.mp ht' with h|h
        · exact ⟨(hts t' h).1,(hts t' h).2.1,(hts t' h).2.2.same fun o e=>(zac ht _) _ _ e⟩
        · cases List.mem_singleton.mp h
          exact ⟨nt.1,nt.2,pr,1,zab,hb⟩
      · rintro acc H3 ⟨s3,ts,e,rfl,hts⟩ D hD3
        have sA:Same H2 H3:=(zac hl2 _).trans s3
        have hP3:Pu H3 a g:=hP2.same sA
        have nD:=hP3.lt hD3
        refine hD _ _ ⟨D,11,by omega,by omega,⟨⟨ts,zab,e,fun t ht=>?_⟩,nD.1,nD.2⟩,hP3.same (zac hD3 _),sx2.trans (Same.x (sA.trans (zac hD3 _))),rfl⟩
        exact ⟨(hts t ht).1,(hts t ht).2.1,(hts t ht).2.2.same fun o e=>(zac hD3 _) _ _ e⟩
  · intro D' _ _ _ hD
    refine ⟨_,rfl,rfl,_,rfl,?_⟩
    refine ite2 (fun c=>?_) (fun c=>hD _ _ ⟨l,12,by omega,by omega,M1,hP1,sxA,rfl⟩)
    refine ycF [(2,5),(2,6),(7,2),(61,1)] _ H1 _ ?_ fun ts2 H2 s2 hts2 hpair2=>?_
    · intro x hx
      simp only [List.mem_cons,List.not_mem_nil,or_false] at hx
      rcases hx with rfl|rfl|rfl|rfl
      · exact ⟨2,5,rfl,by decide +kernel⟩
      · exact ⟨2,6,rfl,by decide +kernel⟩
      · exact ⟨7,2,rfl,by decide +kernel⟩
      · exact ⟨61,1,rfl,by decide +kernel⟩
    refine ⟨by rw [List.length_map,hts2];exact szl 4,fun l2 hl2=>?_⟩
    refine hD _ _ ⟨l2,4,by omega,by omega,?_,hP1.same (s2.trans (zac hl2 _)),sxA.trans (Same.x (s2.trans (zac hl2 _))),rfl⟩
    have n1:=(hP1.same s2).lt hl2
    refine ⟨⟨ts2,zab,hts2,fun t ht=>?_⟩,n1.1,n1.2⟩
    have n2:=hP1.lt (hpair2 t ht).1
    exact ⟨n2.1,n2.2,(hpair2 t ht).2.same fun o e=>(zac hl2 _) _ _ e⟩
end
end My
end
section
-- text: P8
namespace My
open PySem L2 Dg
theorem zbQ:bootBuiltins "dict"=some (.type "dict"):=by decide +kernel
def Pws (p m t b:Nat):List Nat:=(List.range (p^m-1)).map (pw p m t b)
def Logs (p m t b:Nat):List (Key×V):=(List.range (p^m-1)).map fun i=>(Sum.inl ((pw p m t b i:Nat):Int),Vn i)
def tabD (fa pa la:Addr) (p m:Nat):List (Key×V):=[(.inr "field",.ref fa),(.inr "p",Vn p),(.inr "m",Vn m),(.inr "many",Vn (p^m)),(.inr "powers",.ref pa),(.inr "logs",.ref la)]
structure Tab (H:Hp) (tb fa pa la:Addr) (p m t b:Nat):Prop where
  d:H tb=some (.dK (tabD fa pa la p m))
  f:H fa=some (.tup [Vn p,Vn m,Vn t])
  w:H pa=some (.lst ((Pws p m t b).map Vn))
  l:H la=some (.dK (Logs p m t b))
  good:Good p m t
  prim:Prim p m t b
theorem Tab.same {H H':Hp} {tb fa pa la:Addr} {p m t b:Nat} (T:Tab H tb fa pa la p m t b) (s:Same H H'):Tab H' tb fa pa la p m t b :=
  ⟨s _ _ T.d,s _ _ T.f,s _ _ T.w,s _ _ T.l,T.good,T.prim⟩
theorem zbX {α:Type} {f:Nat→α} (n:Nat) (h:∀i j,i<n→j<n→f i=f j→i=j):((List.range n).map f).Nodup:=by
  rw [List.Nodup,List.pairwise_iff_getElem]
  intro i j hi hj hij
  simp only [List.length_map,List.length_range] at hi hj
  simp only [List.getElem_map,List.getElem_range]
  intro e
  have:=h i j hi hj e
  omega
theorem zeP {f:Nat→Key} {g:Nat→V}:∀(l:List Nat) (n:Nat),l=List.range n→(∀i j,i<n→j<n→f i=f j→i=j)→∀i,i<n→valV (l.map fun i=>(f i,g i)) (f i)=some (g i):=by
  intro l n hl h i hi
  subst hl
  unfold valV
  rw [List.find?_map]
  have e:(List.range n).find? ((fun kv:Key×V=>decide (kv.1=f i)) ∘ fun i=>(f i,g i))=some i:=by
    rw [List.find?_range_eq_some]
    refine ⟨by simp,by simpa using hi,fun j hj=>?_⟩
    simp only [Function.comp,Bool.not_eq_true',decide_eq_false_iff_not]
    intro e
    have:=h j i (by omega) hi e
    omega
  rw [e];rfl
theorem yeC (fa pa la:Addr) (p m:Nat):zc1 [] (tabD fa pa la p m)=tabD fa pa la p m:=rfl
theorem zdp (p m t b:Nat):(Pws p m t b).length=p^m-1:=by simp [Pws]
section
variable {P:Program} {w:World} {K:PySem.W.Frag} {mg:Str→Option Value} {base:Heap} {f:Addr} {fd:FuncData}
def yey:Sp:=fun vs H Q _=>∃(fa:Addr) (p m t:Nat),vs=[.ref fa]∧H fa=some (.tup [Vn p,Vn m,Vn t])∧Good p m t∧∀tb pa la b H',H tb=none→H pa=none→H la=none→Tab H' tb fa pa la p m t b→Same H H'→Q (.ref tb) H'
theorem yaT:yaj ["_law_field_here","_law_many","_law_powers","_law_base","_law_thing","_law_logs"] ["_law_field_here"] (zad yaO):=⟨rfl,rfl,rfl,by decide +kernel,rfl,by decide +kernel,by decide +kernel⟩
theorem ygo (B:Bl mg) (h__law_raised:Has P w K mg base 1 "_law_raised" ["_law_one","_law_many"] zap) (h__law_product:Has P w K mg base 2 "_law_product" ["_law_field_here","_law_one","_law_other"] (ych K)) (F:Fun K "_law_table" "_law_table" yaO f fd):FnOk P w K mg base CX0 3 f fd ["_law_field_here"] yey:=by
  refine F.ok yaT (fun vs H Q E h=>?_) (fun cdv A outer s H vs Q E hr h=>?_)
  · obtain ⟨fa,p,m,t,rfl,_⟩:=h;rfl
  obtain ⟨fa,p,m,t,rfl,hf,G,q⟩:=h
  obtain ⟨b,Pb⟩:=G.prim
  have hp:=G.hp
  have hm:=G.hm
  have hpm:=G.hq
  have ht:=G.top
  have hp2:=p_le hp hm hpm
  have hm6:=m_le hp hpm
  have hQ2:=zaM hp hm
  have hbp:=Pb.pos
  have hbl:=Pb.lt
  refine ⟨_,(@yab _ _ _ _ _ (@zag _ _ 1 _ _ _ _ yaT.nd rfl (Or.inl rfl) (@yad _ _ _ _ _ _ _ _ _ _ _ h__law_raised hr (by decide) rfl (@zaa _ _ _ _ _ (@zan _ _ _ _ _ _ _ yas (pv 0) yac (fun _ _=>rfl)) (@zaa _ _ _ _ _ (@zan _ _ _ _ _ _ _ yas (pv 0) yac (fun _ _=>rfl)) yaa (by rfl)) (by rfl)) (by decide) (by rfl) (by rfl)) (by rfl) (by trivial)) (@yab _ _ _ _ _ (@ybB _ _ 2 3 _ _ _ _ _ _ _ _ _ _ _ rfl yaT.nd rfl rfl (by decide) rfl rfl (@zaa _ _ _ _ _ (@zaE _ _ _ _ yaa) (@zaa _ _ _ _ _ yac yaa (by rfl)) (by rfl)) rfl (by rfl)) (@yab _ _ _ _ _ (@zaT _ _ _ _ _ _ PassesOwn.never (@zai _ _ _ _ _ _ _ _ zgh (@zak _ _ _ _ _ _ _ _ _ yah rfl (B "len" (by decide)) PySem.boot_len (@zaa _ _ _ _ _ (pv 2) yaa (by rfl)) (by decide) (by decide) (by rfl) (by rfl)) (@yaf _ _ _ _ _ _ _ _ ybq (pv 1) yac) (yal _)) (@yab _ _ _ _ _ (@ydk _ _ 3 2 4 _ _ _ _ _ _ _ _ _ _ _ _ _ _ rfl yaT.nd rfl rfl rfl (by decide) rfl rfl rfl (@zaa _ _ _ _ _ (@yaf _ _ _ _ _ _ _ _ yar (pv 3) yac) (@zaa _ _ _ _ _ (@zaE _ _ _ _ (@zaa _ _ _ _ _ yac yaa (by rfl))) (@zaa _ _ _ _ _ (@yaf _ _ _ _ _ _ _ _ yar (pv 3) yac) yaa (by rfl)) (by rfl)) (by rfl)) rfl (by rfl)) (@zae _ _ _ (@zaT _ _ _ _ _ _ PassesOwn.never (@zai _ _ _ _ _ _ _ _ zdr (pv 4) yac (yal _)) (@yab _ _ _ _ _ (@ybV _ _ _ _ (@zcG _ _ _ _ _ _ _ _ _ _ _ _ PySem.F.plainAttrs_list PySem.F.slot_list_append PySem.F.type_list_append ybp (pv 2) (@zaa _ _ _ _ _ (pv 4) yaa (by rfl)) (by rfl) (by rfl) (by rfl) (by rfl) (by rfl)) (by rfl)) (@zae _ _ _ (@zag _ _ 4 _ _ _ _ yaT.nd rfl (Or.inl rfl) (@yad _ _ _ _ _ _ _ _ _ _ _ h__law_product hr (by decide) rfl (@zaa _ _ _ _ _ (pv 0) (@zaa _ _ _ _ _ (pv 4) (@zaa _ _ _ _ _ (pv 3) yaa (by rfl)) (by rfl)) (by rfl)) (by decide) (by rfl) (by rfl)) (by rfl) (by trivial)))))))) (@yab _ _ _ _ _ (@zag _ _ 5 _ _ _ _ yaT.nd rfl (Or.inl rfl) (@yaq _ _ _ _ _ _ _ _ _ (zbp rfl) rfl (B "dict" (by decide)) zbQ (@zaa _ _ _ _ _ (@yaM _ _ _ _ _ _ _ ["_law_at","_law_thing"] [] [] _ _ _ _ (id (α:=CSc ["_law_field_here","_law_many","_law_powers","_law_base","_law_thing","_law_logs"] (zad yaO) ["_law_at","_law_thing"] [] [] _) ⟨by rfl,by decide +kernel,by decide +kernel,by decide +kernel,by decide +kernel,by rfl,by decide +kernel⟩) rfl (@zco _ _ _ _ _ _ _ _ rfl (B "enumerate" (by decide)) (@zaa _ _ _ _ _ (pv 2) yaa (by rfl)) (by rfl)) (fun cl C fp s H=>(@zfr _ _ _ _ 2 _ K rfl rfl (@zah _ _ _ _ _ (@yae _ _ 0 _ (by show List.Nodup (["_law_at","_law_thing"]:List Str);decide +kernel) rfl (Or.inl rfl) (by trivial)) (@zah _ _ _ _ _ (@yae _ _ 1 _ (by show List.Nodup (["_law_at","_law_thing"]:List Str);decide +kernel) rfl (Or.inl rfl) (by trivial)) yaH (by rfl)) (by rfl)) (by rfl) (by rfl))) (fun _ _ _ _ _=>yaL) (fun _ _ _ _ _=>(@zaR _ _ _ _ _ (@zaa _ _ _ _ _ (pv 1) (@zaa _ _ _ _ _ (pv 0) yaa (by rfl)) (by rfl)))) (by intro _;rfl)) yaa (by rfl)) (by decide) (by decide) (by rfl) (by rfl)) (by rfl) (by trivial)) (@zae _ _ _ (@zal _ _ _ _ (@ygL _ _ _ _ _ (@yb0 _ _ _ _ _ _ _ _ _ yaF (pv 0) (@yb0 _ _ _ _ _ _ _ _ _ yaF (@zan _ _ _ _ _ _ _ yas (pv 0) yac (fun _ _=>rfl)) (@yb0 _ _ _ _ _ _ _ _ _ yaF (@zan _ _ _ _ _ _ _ yas (pv 0) yac (fun _ _=>rfl)) (@yb0 _ _ _ _ _ _ _ _ _ yaF (pv 1) (@yb0 _ _ _ _ _ _ _ _ _ yaF (pv 2) (@yb0 _ _ _ _ _ _ _ _ _ yaF (pv 5) zgz)))))) rfl rfl (fun h=>nomatch h) (by decide)))))))),?_⟩
  refine ⟨_,rfl,fa,_,_,_,rfl,rfl,SqT.of hf,rfl,?_⟩
  refine ⟨_,rfl,fa,_,_,_,rfl,rfl,SqT.of hf,rfl,?_⟩
  refine ⟨p,m,rfl,hp2,by omega,?_⟩
  refine ⟨szl 0,fun l0 hl0=>⟨_,_,rfl,?_⟩⟩
  dsimp only []
  refine ybh (fun σ H'=>Same H H'∧∃pa s4,H pa=none∧H' pa=some (.lst ((Pws p m t b).map Vn))∧σ=[some (.ref fa),some (Vn (p^m)),some (.ref pa),some (Vn b),s4,none]) ?_ ?_
  · rintro σ H1 ⟨s1,pa,s4,npa,epa,rfl⟩
    refine ⟨_,rfl,false,pa,rfl,⟨_,SqL.of epa⟩,?_⟩
    refine zar (zbC (b:=false) (xs:=(Pws p m t b).map Vn)) (fun k acc H'=>Same H1 H'∧∃ts:List Addr,ts.length=k∧acc=ts.map V.ref∧∀j a,ts[j]?=some a→H' a=some (.tup [Vn (pw p m t b j),Vn j])) ⟨Same.refl _,[],rfl,rfl,fun j a e=>by simp at e⟩ (fun i acc H' _ h=>SqL.of (h.1 _ _ epa)) ?_ ?_ ?_
    · rintro k acc H' hk ⟨_,ts,e,rfl,_⟩
      rw [List.length_map,zdp] at hk
      rw [List.length_map,e];exact zam (by omega)
    · rintro k acc x H2 H3 hk ⟨s2,ts,e,rfl,hts⟩ ⟨T,u,rfl,eu,hT,rfl⟩
      rw [List.length_map,zdp] at hk
      have eu2:u=Vn (pw p m t b k):=by
        unfold Pws at eu
        rw [List.getElem?_map,List.getElem?_map,List.getElem?_range hk] at eu
        exact (Option.some.inj eu).symm
      subst eu2
      refine ⟨T,_,rfl,SqT.of zab,rfl,_,_,rfl,_,_,rfl,rfl,?_⟩
      refine ⟨_,rfl,_,rfl,szl 2,fun a ha=>?_⟩
      have sA:=(zac hT (.tup [.int (k:Int),Vn (pw p m t b k)])).trans (zac ha (.tup [Vn (pw p m t b k),Vn k]))
      refine ⟨s2.trans sA,ts++[a],by simp [e],by simp,fun j a' ej=>?_⟩
      rw [List.getElem?_append] at ej
      split at ej
      · exact sA _ _ (hts j a' ej)
      · rename_i h
        have hj:j=k:=by
          have:=(List.getElem?_eq_some_iff.mp ej).1
          simp at this;omega
        subst hj
        simp [e] at ej
        subst ej
        exact zab
    · rintro acc H2 ⟨s2,ts,e,rfl,hts⟩ D hD
      rw [List.length_map,zdp] at e
      have sB:=zac hD (.lst (ts.map V.ref))
      refine ⟨D,ts,Logs p m t b,rfl,zab,by rw [e];simp [Logs],by simp only [Logs,List.length_map,List.length_range];exact szl _ (by omega),fun j a kv ej ek=>?_,?_,fun la hla=>?_⟩
      · have hj:j<p^m-1:=by have:=(List.getElem?_eq_some_iff.mp ej).1;omega
        unfold Logs at ek
        rw [List.getElem?_map,List.getElem?_range hj] at ek
        cases ek
        exact sB _ _ (hts j a ej)
      · unfold Logs
        rw [List.map_map]
        refine zbX _ fun i j hi hj e=>G.inj Pb i j hi hj ?_
        have e:Sum.inl ((pw p m t b i:Nat):Int)=(Sum.inl ((pw p m t b j:Nat):Int):Key):=e
        injection e with e
        omega
      · intro tb htb
        have s3:Same H1 (upd (upd H2 D (.lst (ts.map V.ref))) la (.dK (Logs p m t b))):=(s2.trans sB).trans (zac hla _)
        have s4:=s3.trans (zac htb (.dK []))
        have s5:=s1.trans s4
        refine ⟨_,rfl,_,rfl,fa,_,_,_,rfl,rfl,SqT.of (s5 _ _ hf),rfl,?_⟩
        refine ⟨_,rfl,fa,_,_,_,rfl,rfl,SqT.of (s5 _ _ hf),rfl,?_⟩
        refine ⟨_,rfl,_,rfl,_,rfl,zab,tabD fa pa la p m,rfl,by show 6≤15;decide,?_⟩
        rw [zd6,yeC]
        have s6:=s3.trans (zac htb (.dK (tabD fa pa la p m)))
        have s7:=s1.trans s6
        have old:∀a,H1 a=none→H a=none:=fun a ha=>by
          cases e:H a with
          | none=>rfl
          | some o=>rw [s1 _ _ e] at ha;cases ha
        have old2:∀a,upd H2 D (.lst (ts.map V.ref)) a=none→H a=none:=fun a ha=>by
          cases e:H a with
          | none=>rfl
          | some o=>rw [(s2.trans sB) _ _ (s1 _ _ e)] at ha;cases ha
        refine q tb pa la b _ ?_ npa (old2 la hla) ⟨zab,s7 _ _ hf,s6 _ _ epa,(zac htb _) _ _ zab,G,Pb⟩ s7
        cases e:H tb with
        | none=>rfl
        | some o=>rw [s3 _ _ (s1 _ _ e)] at htb;cases htb
  · intro D' _ _ _ hD
    refine yaW (fun σ H'=>Same H H'∧∃base pa s4,H pa=none∧σ=[some (.ref fa),some (Vn (p^m)),some (.ref pa),some (Vn base),s4,none]∧∃L:List Nat,H' pa=some (.lst (L.map Vn))∧((base=b∧L=Pws p m t b)∨(base<b∧L.length<p^m-1)))
      (fun σ _=>b-mI σ 3) ⟨zac hl0 _,0,l0,none,hl0,rfl,[],zab,.inr ⟨hbp,by show 0<p^m-1;omega⟩⟩ ?_
    rintro σ H1 ⟨s1,bs,pa,s4,npa,rfl,L,ePa,hL⟩
    refine ⟨_,rfl,pa,_,rfl,.inl (SqL.of ePa),?_⟩
    refine ⟨_,rfl,_,_,rfl,rfl,_,_,rfl,rfl,_,rfl,?_⟩
    rw [List.length_map]
    refine ite2 (fun c=>?_) (fun c=>?_)
    · have c':L.length<p^m-1:=by have:=of_decide_eq_true c;omega
      have hlt:bs<b:=by
        rcases hL with ⟨rfl,rfl⟩|h
        · rw [zdp] at c';omega
        · exact h.1
      refine ⟨fun σ' H'=>Same H H'∧∃pa s4,H pa=none∧σ'=[some (.ref fa),some (Vn (p^m)),some (.ref pa),some (Vn (bs+1)),s4,none]∧∃L:List Nat,H' pa=some (.lst (L.map Vn))∧((bs+1=b∧L=Pws p m t b)∨(bs+1<b∧L.length<p^m-1)),?_,?_⟩
      · rintro σ' H' ⟨s2,pa2,s5,n2,rfl,L2,e2,h2⟩
        refine ⟨_,?_,rfl,s2,bs+1,pa2,s5,n2,rfl,L2,e2,h2⟩
        show b-(bs+1)<b-bs;omega
      refine ⟨_,rfl,_,_,rfl,rfl,?_⟩
      refine ⟨szl 1,fun l1 hl1=>?_⟩
      refine ⟨_,rfl,_,_,rfl,rfl,_,_,_,rfl,?_⟩
      have n1:H l1=none:=by
        cases e:H l1 with
        | none=>rfl
        | some o=>rw [s1 _ _ e] at hl1;cases hl1
      have hb1:bs+1<p^m:=by omega
      have nfa:fa≠l1:=zaf hf n1
      refine yaW (fun σ H'=>yan l1 l1 H1 H'∧∃k,1≤k∧k≤p^m-1∧σ=[some (.ref fa),some (Vn (p^m)),some (.ref l1),some (Vn (bs+1)),some (Vn (pw p m t (bs+1) k)),none]∧H' l1=some (.lst (((List.range k).map (pw p m t (bs+1))).map Vn))∧∀i,0<i→i<k→pw p m t (bs+1) i≠1)
        (fun _ H'=>p^m-zdq H' l1) ⟨Same.x (zac hl1 _),1,by omega,by omega,?_,zab,fun i h1 h2=>by omega⟩ ?_
      · rw [yb9 hp hm hb1];rfl
      rintro σ H2 ⟨sx2,k,hk1,hk2,rfl,e2,hne⟩
      have hlen:zdq H2 l1=k:=by rw [zb2 e2];simp
      refine ⟨_,rfl,rfl,_,rfl,?_⟩
      refine ite2 (fun c=>?_) (fun c=>?_)
      · have hk:pw p m t (bs+1) k≠1:=by
          intro e
          rw [e] at c
          exact absurd c (by decide)
        have hk3:k<p^m-1:=by
          rcases Nat.lt_or_ge k (p^m-1) with h|h
          · exact h
          · have:k=p^m-1:=by omega
            rw [this] at hk
            exact absurd (G.fermat (by omega) hb1) hk
        have hf2:H2 fa=some (.tup [Vn p,Vn m,Vn t]):=sx2 _ _ nfa nfa (s1 _ _ hf)
        have e3:((List.range k).map (pw p m t (bs+1))).map Vn++[Vn (pw p m t (bs+1) k)]=((List.range (k+1)).map (pw p m t (bs+1))).map Vn:=by
          rw [List.range_succ,List.map_append,List.map_append];rfl
        refine ⟨fun σ' H'=>yan l1 l1 H1 H'∧σ'=[some (.ref fa),some (Vn (p^m)),some (.ref l1),some (Vn (bs+1)),some (Vn (pw p m t (bs+1) (k+1))),none]∧H' l1=some (.lst (((List.range (k+1)).map (pw p m t (bs+1))).map Vn)),?_,?_⟩
        · rintro σ' H' ⟨a1,rfl,a3⟩
          have hl2:zdq H' l1=k+1:=by rw [zb2 a3];simp
          refine ⟨_,?_,rfl,a1,k+1,by omega,by omega,rfl,a3,fun i h1 h2=>?_⟩
          · show p^m-zdq H' l1<p^m-zdq H2 l1;rw [hl2,hlen];omega
          · rcases Nat.lt_or_ge i k with h|h
            · exact hne i h1 h
            · rw [show i=k by omega];exact hk
        refine ⟨_,rfl,.inl ⟨rfl,_,SqL.of e2⟩,_,rfl,?_⟩
        refine ⟨l1,_,_,rfl,rfl,e2,by simp only [List.length_map,List.length_range];exact zam (by omega),?_⟩
        rw [e3]
        have s3:yan l1 l1 H1 (upd H2 l1 (.lst (((List.range (k+1)).map (pw p m t (bs+1))).map Vn))):=ydS sx2
        refine ⟨_,rfl,_,rfl,_,rfl,fa,p,m,t,pw p m t (bs+1) k,bs+1,rfl,SqT.of (by rw [yag nfa];exact hf2),hp,hm,hpm,ht,zbo hp hm _ _,hb1,fun r H4 s4' br hr=>?_⟩
        have e:=zdc hp hm br hr
        subst e
        exact ⟨s3.trans (Same.x s4'),rfl,s4' _ _ zab⟩
      · have hk:pw p m t (bs+1) k=1:=by
          rcases Nat.decEq (pw p m t (bs+1) k) 1 with h|h
          · exfalso
            refine c ?_
            rw [decide_eq_false];rfl
            intro e;injection e with e;exact h (by omega)
          · exact h
        refine ⟨(s1.trans (ydu (sx2) hl1)),l1,_,n1,rfl,_,e2,?_⟩
        rcases Nat.lt_or_ge (bs+1) b with h|h
        · refine .inr ⟨h,?_⟩
          obtain ⟨i,i0,i1,ie⟩:=Pb.low (bs+1) (by omega) h
          simp only [List.length_map,List.length_range]
          rcases Nat.lt_or_ge i k with h3|h3
          · exact absurd ie (hne i i0 h3)
          · omega
        · have hbb:bs+1=b:=by omega
          refine .inl ⟨hbb,?_⟩
          rw [hbb] at hk ⊢
          have:k=p^m-1:=by
            rcases Nat.lt_or_ge k (p^m-1) with h3|h3
            · exact absurd hk (Pb.min k (by omega) h3)
            · omega
          rw [this];rfl
    · have c':¬ L.length<p^m-1:=by
        intro h;exact c (decide_eq_true (by omega))
      rcases hL with ⟨rfl,rfl⟩|h
      · exact hD _ _ ⟨s1,pa,s4,npa,ePa,rfl⟩
      · exact absurd h.2 c'
theorem yfe {fa pa la:Addr} {p m:Nat}:valV (tabD fa pa la p m) (.inr "p")=some (Vn p):=rfl
theorem zhg {fa pa la:Addr} {p m:Nat}:valV (tabD fa pa la p m) (.inr "m")=some (Vn m):=rfl
theorem zb0 {fa pa la:Addr} {p m:Nat}:valV (tabD fa pa la p m) (.inr "many")=some (Vn (p^m)):=rfl
theorem yda {fa pa la:Addr} {p m:Nat}:valV (tabD fa pa la p m) (.inr "powers")=some (.ref pa):=rfl
theorem zdk {fa pa la:Addr} {p m:Nat}:valV (tabD fa pa la p m) (.inr "logs")=some (.ref la):=rfl
theorem zeU {fa pa la:Addr} {p m:Nat}:valV (tabD fa pa la p m) (.inr "field")=some (.ref fa):=rfl
theorem Tab.get {H:Hp} {tb fa pa la:Addr} {p m t b:Nat} (T:Tab H tb fa pa la p m t b) {x:Str} {v:V} (h:valV (tabD fa pa la p m) (.inr x)=some v):DGet H tb (.str x) (some v):=by
  rw [←h];exact DGet.k (k:=.inr x) T.d
theorem Tab.log {H:Hp} {tb fa pa la:Addr} {p m t b:Nat} (T:Tab H tb fa pa la p m t b) {i:Nat} (h:i<p^m-1):DGet H la (Vn (pw p m t b i)) (some (Vn i)):=by
  have e:valV (Logs p m t b) (.inl ((pw p m t b i:Nat):Int))=some (Vn i):=by
    unfold Logs
    refine zeP _ _ rfl (fun i j hi hj e=>T.good.inj T.prim i j hi hj ?_) i h
    injection e with e
    omega
  rw [←e];exact DGet.k (k:=.inl ((pw p m t b i:Nat):Int)) T.l
theorem ygZ (x y i:Nat):dg 2 i (x ^^^ y)=(dg 2 i x+dg 2 i y)%2:=by
  have e:∀z,dg 2 i z=(z.testBit i).toNat:=fun z=>by unfold dg;rw [Nat.toNat_testBit]
  rw [e,e,e,Nat.testBit_xor]
  cases x.testBit i <;> cases y.testBit i <;> rfl
theorem ygS:∀x:Nat,x<64→∀y:Nat,y<64→Builtin.bitXor (x:Int) (y:Int)=((x ^^^ y:Nat):Int):=by decide +kernel
theorem yb2 (x:Nat):decide (Vn x=V.int 0)=decide (x=0):=decide_eq_decide.mpr ⟨fun e=>by injection e with e;omega,fun e=>by rw [e];rfl⟩
def ycx:Sp:=fun vs H Q _=>∃(tb fa pa la:Addr) (p m t b x y:Nat),vs=[.ref tb,Vn x,Vn y]∧Tab H tb fa pa la p m t b∧x<p^m∧y<p^m∧Q (Vn (add p m x y)) H
theorem zbu:yaj ["_law_table_here","_law_one","_law_other","_law_p","_law_found","_law_place"] ["_law_table_here","_law_one","_law_other"] (zad ybc):=⟨rfl,rfl,rfl,by decide +kernel,rfl,by decide +kernel,by decide +kernel⟩
theorem zf2 (B:Bl mg) (F:Fun K "_law_plus" "_law_plus" ybc f fd):FnOk P w K mg base CX0 1 f fd ["_law_table_here","_law_one","_law_other"] ycx:=by
  refine F.ok zbu (fun vs H Q E h=>?_) (fun cdv A outer s H vs Q E hr h=>?_)
  · obtain ⟨tb,fa,pa,la,p,m,t,b,x,y,rfl,_⟩:=h;rfl
  obtain ⟨tb,fa,pa,la,p,m,t,b,x,y,rfl,T,hx,hy,q⟩:=h
  have hp:=T.good.hp
  have hm:=T.good.hm
  refine ⟨_,(@yab _ _ _ _ _ (@ydk _ _ 3 4 5 _ _ _ _ _ _ _ _ _ _ _ _ _ _ rfl zbu.nd rfl rfl rfl (by decide) rfl rfl rfl (@zaa _ _ _ _ _ (@yaz _ _ _ _ _ _ (zbn hr) (pv 0) yaF (fun _ _=>rfl)) (@zaa _ _ _ _ _ yac (@zaa _ _ _ _ _ yac yaa (by rfl)) (by rfl)) (by rfl)) rfl (by rfl)) (@yab _ _ _ _ _ (@yba _ _ _ _ _ _ _ _ (@zai _ _ _ _ _ _ _ _ zbr (pv 3) yac (yal _)) (@zae _ _ _ (@zal _ _ _ _ (@yaf _ _ _ _ _ _ _ _ zhi (pv 1) (pv 2)))) zax) (@yab _ _ _ _ _ (@zaT _ _ _ _ _ _ PassesOwn.never (@zai _ _ _ _ _ _ _ _ ycb (@yaf _ _ _ _ _ _ _ _ yar (pv 1) (pv 2)) yac (yal _)) (@yab _ _ _ _ _ (@zag _ _ 4 _ _ _ _ zbu.nd rfl (Or.inl rfl) (@yaf _ _ _ _ _ _ _ _ yar (pv 4) (@yaf _ _ _ _ _ _ _ _ yaX (@yaf _ _ _ _ _ _ _ _ zaz (@yaf _ _ _ _ _ _ _ _ yar (pv 1) (pv 2)) (pv 3)) (pv 5))) (by rfl) (by trivial)) (@zae _ _ _ (@ydk _ _ 1 2 5 _ _ _ _ _ _ _ _ _ _ _ _ _ _ rfl zbu.nd rfl rfl rfl (by decide) rfl rfl rfl (@zaa _ _ _ _ _ (@yaf _ _ _ _ _ _ _ _ ycq (pv 1) (pv 3)) (@zaa _ _ _ _ _ (@yaf _ _ _ _ _ _ _ _ ycq (pv 2) (pv 3)) (@zaa _ _ _ _ _ (@yaf _ _ _ _ _ _ _ _ yaX (pv 5) (pv 3)) yaa (by rfl)) (by rfl)) (by rfl)) rfl (by rfl))))) (@zae _ _ _ (@zal _ _ _ _ (pv 4)))))),?_⟩
  refine ⟨_,rfl,tb,_,rfl,T.get yfe,_,_,_,rfl,?_⟩
  refine ⟨_,rfl,rfl,_,rfl,?_⟩
  refine ite2 (fun c=>?_) (fun c=>?_)
  · have hp2:p=2:=by
      have e:=of_decide_eq_true c
      injection e with e
      omega
    subst hp2
    refine ⟨_,rfl,_,rfl,_,_,rfl,rfl,?_⟩
    have e:V.int (Builtin.bitXor (x:Int) (y:Int))=Vn (add 2 m x y):=by
      show V.int _=V.int _
      congr 1
      rw [ygS x (by have:=T.good.hq;omega) y (by have:=T.good.hq;omega)]
      congr 1
      exact yfv hp hm hx hy fun i=>ygZ x y i
    show Q (V.int (Builtin.bitXor (x:Int) (y:Int))) _
    rw [e]
    exact q
  · refine yaW (fun σ H'=>H'=H∧∃(k o u tt:Nat),σ=[some (.ref tb),some (Vn o),some (Vn u),some (Vn p),some (Vn tt),some (Vn (p^k))]∧o=x/p^k∧u=y/p^k∧tt<p^k∧∀i,i<k→dg p i tt=(dg p i x+dg p i y)%p)
      (fun σ _=>mI σ 1+mI σ 2) ⟨rfl,0,x,y,0,rfl,by simp,by simp,by simp,fun i hi=>absurd hi (Nat.not_lt_zero _)⟩ ?_
    rintro σ H' ⟨rfl,k,o,u,tt,rfl,ho,hu,ht,hd⟩
    have hp64:=p_le hp hm T.good.hq
    have pk:0<p^k:=Nat.pow_pos (by omega)
    refine ⟨_,rfl,_,rfl,_,_,rfl,rfl,_,_,rfl,rfl,_,rfl,?_⟩
    refine ite2 (fun c=>?_) (fun c=>?_)
    · have c':0<o+u:=by have:=of_decide_eq_true c;omega
      refine ⟨fun σ' H''=>H''=H'∧σ'=[some (.ref tb),some (Vn (o/p)),some (Vn (u/p)),some (Vn p),some (Vn (tt+(o+u)%p*p^k)),some (Vn (p^k*p))],?_,?_⟩
      · rintro σ' H'' ⟨rfl,rfl⟩
        have l1:o/p≤o:=Nat.div_le_self _ _
        have l2:u/p≤u:=Nat.div_le_self _ _
        have l3:o/p<o∨u/p<u:=by
          rcases Nat.eq_zero_or_pos o with h|h
          · exact .inr (Nat.div_lt_self (by omega) (by omega))
          · exact .inl (Nat.div_lt_self h (by omega))
        refine ⟨_,?_,rfl,rfl,k+1,o/p,u/p,tt+(o+u)%p*p^k,rfl,?_,?_,?_,fun i hi=>?_⟩
        · show o/p+u/p<o+u;omega
        · rw [ho,Nat.pow_succ,Nat.div_div_eq_div_mul]
        · rw [hu,Nat.pow_succ,Nat.div_div_eq_div_mul]
        · exact yeU ht (Nat.mod_lt _ (by omega))
        · rw [yfw hp ht (Nat.mod_lt _ (by omega))]
          by_cases e:i=k
          · rw [if_pos e,ho,hu,e];unfold dg;rw [Nat.add_mod]
          · rw [if_neg e];exact hd i (by omega)
      · refine ⟨_,rfl,_,rfl,_,rfl,_,_,rfl,rfl,_,rfl,_,_,rfl,rfl,?_⟩
        refine ⟨by show (0:Int)<p;omega,_,rfl,_,_,rfl,rfl,?_⟩
        have hmm:(o+u)%p<p:=Nat.mod_lt _ (by omega)
        refine ⟨.inl ⟨by show -(2^64:Int)<(((o+u)%p:Nat):Int);omega,by show (((o+u)%p:Nat):Int)<2^64;omega⟩,_,_,rfl,rfl,?_⟩
        refine ⟨_,rfl,_,rfl,_,_,rfl,rfl,⟨by show (0:Int)<p;omega,by show (p:Int)<2^64;omega⟩,?_⟩
        refine ⟨_,rfl,_,rfl,_,_,rfl,rfl,⟨by show (0:Int)<p;omega,by show (p:Int)<2^64;omega⟩,?_⟩
        refine ⟨_,rfl,_,rfl,_,_,rfl,rfl,.inr ⟨by show -(2^64:Int)<p;omega,by show (p:Int)<2^64;omega⟩,?_⟩
        exact ⟨_,_,_,rfl,rfl,rfl⟩
    · have c':o=0∧u=0:=by
        have:¬ (0:Int)<(o:Int)+(u:Int):=fun h=>c (decide_eq_true h)
        omega
      refine ⟨_,rfl,?_⟩
      have e:tt=add p m x y:=yfv hp hm hx hy fun i=>by
        by_cases e:i<k
        · exact hd i e
        · have hx:x<p^k:=by
            rcases Nat.lt_or_ge x (p^k) with h|h
            · exact h
            · have:=Nat.div_pos h pk;omega
          have hy:y<p^k:=by
            rcases Nat.lt_or_ge y (p^k) with h|h
            · exact h
            · have:=Nat.div_pos h pk;omega
          rw [yax hp ht (by omega),yax hp hx (by omega),yax hp hy (by omega)]
          simp
      subst e
      exact q
def ybF:Sp:=fun vs H Q _=>∃(tb fa pa la:Addr) (p m t b x y:Nat),vs=[.ref tb,Vn x,Vn y]∧Tab H tb fa pa la p m t b∧x<p^m∧y<p^m∧Q (Vn (mul p m t x y)) H
theorem yca:yaj ["_law_table_here","_law_one","_law_other","_law_at"] ["_law_table_here","_law_one","_law_other"] (zad za3):=⟨rfl,rfl,rfl,by decide +kernel,rfl,by decide +kernel,by decide +kernel⟩
theorem zfD (B:Bl mg) (F:Fun K "_law_times" "_law_times" za3 f fd):FnOk P w K mg base CX0 1 f fd ["_law_table_here","_law_one","_law_other"] ybF:=by
  refine F.ok yca (fun vs H Q E h=>?_) (fun cdv A outer s H vs Q E hr h=>?_)
  · obtain ⟨tb,fa,pa,la,p,m,t,b,x,y,rfl,_⟩:=h;rfl
  obtain ⟨tb,fa,pa,la,p,m,t,b,x,y,rfl,T,hx,hy,q⟩:=h
  have hp:=T.good.hp
  have hm:=T.good.hm
  refine ⟨_,(@yab _ _ _ _ _ (@yba _ _ _ _ _ _ _ _ (@PW.pt _ _ _ (@yd4 _ _ _ _ _ _ _ (@zai _ _ _ _ _ _ _ _ zbr (pv 1) yac (yal _)) (@zcJ _ _ _ _ (@zai _ _ _ _ _ _ _ _ zbr (pv 2) yac (yal _))))) (@zae _ _ _ (@zal _ _ _ _ yac)) zax) (@yab _ _ _ _ _ (@zag _ _ 3 _ _ _ _ yca.nd rfl (Or.inl rfl) (@yaf _ _ _ _ _ _ _ _ yar (@yaz _ _ _ _ _ _ (zbn hr) (@yaz _ _ _ _ _ _ (zbn hr) (pv 0) yaF (fun _ _=>rfl)) (pv 1) (fun _ _=>rfl)) (@yaz _ _ _ _ _ _ (zbn hr) (@yaz _ _ _ _ _ _ (zbn hr) (pv 0) yaF (fun _ _=>rfl)) (pv 2) (fun _ _=>rfl))) (by rfl) (by trivial)) (@zae _ _ _ (@zal _ _ _ _ (@zan _ _ _ _ _ _ _ zaq (@yaz _ _ _ _ _ _ (zbn hr) (pv 0) yaF (fun _ _=>rfl)) (@yaf _ _ _ _ _ _ _ _ zaz (pv 3) (@yaf _ _ _ _ _ _ _ _ ybq (@yaz _ _ _ _ _ _ (zbn hr) (pv 0) yaF (fun _ _=>rfl)) yac)) (fun _ _=>rfl)))))),?_⟩
  refine ze1 (b1:=decide (x=0)) (b2:=decide (y=0)) (fun Q q=>⟨_,rfl,rfl,_,rfl,?_⟩) (fun Q q=>⟨_,rfl,rfl,_,rfl,?_⟩) ?_
  · rw [yb2];exact q
  · rw [yb2];exact q
  refine ite2 (fun c=>?_) (fun c=>?_)
  · have e:mul p m t x y=0:=by
      simp only [Bool.or_eq_true,decide_eq_true_eq] at c
      rcases c with rfl|rfl
      · exact zero_mul hp hm _
      · exact mul_zero hp hm _
    rw [e] at q
    exact q
  · simp only [Bool.or_eq_true,decide_eq_true_eq,not_or] at c
    obtain ⟨i,hi,ei⟩:=T.prim.all x (by omega) hx
    obtain ⟨j,hj,ej⟩:=T.prim.all y (by omega) hy
    have hQ2:=zaM hp hm
    have hQ:=T.good.hq
    have gi:=T.log hi
    have gj:=T.log hj
    rw [ei] at gi
    rw [ej] at gj
    refine ⟨_,rfl,tb,_,rfl,T.get zdk,_,rfl,la,_,rfl,gi,?_⟩
    refine ⟨_,rfl,tb,_,rfl,T.get zdk,_,rfl,la,_,rfl,gj,_,_,rfl,rfl,?_⟩
    refine ⟨_,rfl,tb,_,rfl,T.get yda,?_⟩
    refine ⟨_,rfl,_,rfl,tb,_,rfl,T.get zb0,_,_,rfl,rfl,_,_,rfl,rfl,by show (0:Int)<((p^m:Nat):Int)-1;omega,?_⟩
    have ek:((i:Int)+(j:Int))%(((p^m:Nat):Int)-1)=(((i+j)%(p^m-1):Nat):Int):=by
      rw [Int.natCast_emod,Int.natCast_add,Int.natCast_sub (by omega)];rfl
    have hk:(i+j)%(p^m-1)<p^m-1:=Nat.mod_lt _ (by omega)
    refine ⟨pa,_,_,Vn (pw p m t b ((i+j)%(p^m-1))),rfl,rfl,SqL.of T.w,?_,?_⟩
    · show atI _ (((i:Int)+(j:Int))%(((p^m:Nat):Int)-1))=_
      rw [ek]
      exact yaw (by unfold Pws;rw [List.getElem?_map,List.getElem?_map,List.getElem?_range hk];rfl)
    · have e:pw p m t b ((i+j)%(p^m-1))=mul p m t x y:=by
        rw [T.good.pw_mod T.prim.pos T.prim.lt,ybR hp hm,ei,ej]
      rw [e]
      exact q
end
end My
end
section
-- text: P9
namespace My
open PySem L2 Dg
theorem zat {ws:List Nat} {i:Nat} (h:i<ws.length):(ws.map Vn)[i]?=some (Vn (ws.getD i 0)):=by
  rw [List.getElem?_map,List.getElem?_eq_getElem h];simp [List.getD,h]
theorem zbi {xs:List Nat} {n i:Nat} (h:∀x∈xs,x<n) (hi:i<xs.length):xs.getD i 0<n:=by
  have e:xs.getD i 0=xs[i]:=by simp [List.getD,hi]
  rw [e];exact h _ (List.getElem_mem hi)
theorem mapI (ns:List Nat):(ns.map fun n:Nat=>(n:Int)).map V.int=ns.map Vn:=by rw [List.map_map];rfl
structure yeQ (pu g tb fa pa la:Addr):Prop where
  a1:tb≠pu
  a2:tb≠g
  b1:fa≠pu
  b2:fa≠g
  c1:pa≠pu
  c2:pa≠g
  d1:la≠pu
  d2:la≠g
theorem Tab.x {H H':Hp} {pu g tb fa pa la:Addr} {p m t b:Nat} (T:Tab H tb fa pa la p m t b) (a:yeQ pu g tb fa pa la) (s:yan pu g H H'):Tab H' tb fa pa la p m t b :=
  ⟨s _ _ a.a1 a.a2 T.d,s _ _ a.b1 a.b2 T.f,s _ _ a.c1 a.c2 T.w,s _ _ a.d1 a.d2 T.l,T.good,T.prim⟩
section
variable {P:Program} {w:World} {K:PySem.W.Frag} {mg:Str→Option Value} {base:Heap} {f:Addr} {fd:FuncData}
end
end My
end
section
-- text: PA
namespace My
open PySem L2 Dg
section
variable {p m t:Nat} (hp:2≤p) (hm:1≤m)
include hp hm
end
theorem zd4 (l:List Nat) (i x:Nat):(l.map Vn).set i (Vn x)=(l.set i x).map Vn:=by rw [List.map_set]
theorem ydM {n j:Nat} (h:j<n):ixN n (j:Int)=some j:=by unfold ixN;rw [if_pos (by omega),if_pos (by omega)];rfl
theorem zfT (n:Nat):(List.replicate n [V.int 0]).flatten=(List.replicate n 0).map Vn:=by
  induction n with
  | zero=>rfl
  | succ n ih=>rw [List.replicate_succ,List.flatten_cons,ih,List.replicate_succ];rfl
section
variable {P:Program} {w:World} {K:PySem.W.Frag} {mg:Str→Option Value} {base:Heap} {f:Addr} {fd:FuncData}
end
end My
end
section
-- text: PB
namespace My
open PySem L2 Dg
theorem ze2 {n:Nat} {f:Nat→Nat} (i:Nat):((List.range n).map f).getD i 0=if i<n then f i else 0:=by
  rw [List.getD_eq_getElem?_getD,List.getElem?_map]
  by_cases h:i<n
  · rw [List.getElem?_range h,if_pos h];rfl
  · rw [List.getElem?_eq_none (by simpa using h),if_neg h];rfl
section
variable {p m t:Nat} (hp:2≤p) (hm:1≤m)
include hp hm
theorem yfk {x y:Nat} (hx:x<p^m) (hy:y<p^m):add p m x (mul p m t (p-1) y)=sub p m x y:=by
  refine ybT hp (zbD hp hm _ _) (yeB hp hm _ _) fun i hi=>?_
  rw [zbR hp hm _ _ i hi,zfn hp hm _ _ i hi,zbB hp hm _ _ i hi]
  have e:∀(k:Nat) (Y:Nat→Nat),1≤k→tn m (dgs p t) k (dgs p (p-1)) Y i=(p-1)*Y i:=by
    intro k Y hk
    obtain ⟨k,rfl⟩:∃k',k=k'+1:=⟨k-1,by omega⟩
    show dg p 0 (p-1)*Y i+tn m (dgs p t) k (fun j=>dg p (j+1) (p-1)) (zaL m (dgs p t) Y) i=_
    rw [ycl _ _ _ _ (fun j=>by rw [zbI,Nat.div_eq_of_lt (by omega),zbt]),zbw,Nat.mod_eq_of_lt (by omega),Nat.add_zero]
  rw [e m _ hm,Nat.add_mod_mod]
end
section
variable {P:Program} {w:World} {K:PySem.W.Frag} {mg:Str→Option Value} {base:Heap} {f:Addr} {fd:FuncData}
end
end My
end
section
-- text: PC
namespace My
open PySem L2 Dg
section
variable {P:Program} {w:World} {K:PySem.W.Frag} {mg:Str→Option Value} {base:Heap} {f:Addr} {fd:FuncData}
def yek (K:PySem.W.Frag):Sp:=fun vs H Q _=>∃(fa a:Addr) (p m t x:Nat) (xs:List Nat),vs=[.ref fa,.ref a,Vn x]∧Fld K H fa p m t∧Good p m t∧SqT K H a (xs.map Vn)∧(∀y∈xs,y<p^m)∧x<p^m∧Q (Vn (val p m t x xs)) H
theorem zcx:yaj ["field","row","one","total","thing"] ["field","row","one"] (zad yck):=⟨rfl,rfl,rfl,by decide +kernel,rfl,by decide +kernel,by decide +kernel⟩
theorem yfV (B:Bl mg) (h_plus:Has P w K mg base 1 "plus" ["field","one","other"] (ydn K)) (h_times:Has P w K mg base 3 "times" ["field","one","other"] (zcv K)) (F:Fun K "value" "value" yck f fd):FnOk P w K mg base CX0 4 f fd ["field","row","one"] (yek K):=by
  refine F.ok zcx (fun vs H Q E h=>?_) (fun cdv A outer s H vs Q E hr h=>?_)
  · obtain ⟨fa,a,p,m,t,x,xs,rfl,_⟩:=h;rfl
  obtain ⟨fa,a,p,m,t,x,xs,rfl,hF,G,ha,hy,hx,q⟩:=h
  have hp:=G.hp
  have hm:=G.hm
  have hp2:=p_le hp hm G.hq
  refine ⟨_,(@yab _ _ _ _ _ (@zag _ _ 3 _ _ _ _ zcx.nd rfl (Or.inl rfl) yac (by rfl) (by trivial)) (@yab _ _ _ _ _ (@yaD _ _ _ _ _ _ _ _ PassesOwn.never rfl (@zg4 _ _ _ _ _ _ rfl (B "reversed" (by decide)) (@zaa _ _ _ _ _ (pv 1) yaa (by rfl)) (by rfl)) (@yae _ _ 4 _ zcx.nd rfl (Or.inl rfl) (by trivial)) (@zae _ _ _ (@zag _ _ 3 _ _ _ _ zcx.nd rfl (Or.inl rfl) (@yad _ _ _ _ _ _ _ _ _ _ _ h_plus hr (by decide) rfl (@zaa _ _ _ _ _ (pv 0) (@zaa _ _ _ _ _ (@yad _ _ _ _ _ _ _ _ _ _ _ h_times hr (by decide) rfl (@zaa _ _ _ _ _ (pv 0) (@zaa _ _ _ _ _ (pv 3) (@zaa _ _ _ _ _ (pv 2) yaa (by rfl)) (by rfl)) (by rfl)) (by decide) (by rfl) (by rfl)) (@zaa _ _ _ _ _ (pv 4) yaa (by rfl)) (by rfl)) (by rfl)) (by decide) (by rfl) (by rfl)) (by rfl) (by trivial))) (by intro _;rfl)) (@zae _ _ _ (@zal _ _ _ _ (pv 3))))),?_⟩
  refine ⟨_,rfl,a,_,rfl,ha,?_⟩
  refine zbb (zf0 (xs:=xs.map Vn)) (fun k σ H'=>H'=H∧∃s4,σ=[some (.ref fa),some (.ref a),some (Vn x),some (Vn (val p m t x (xs.drop (xs.length-k)))),s4]) ⟨rfl,none,by rw [Nat.sub_zero,List.drop_length];rfl⟩ (fun i σ H' _ h=>by rw [h.1];exact ha) ?_ ?_
  · rintro k z σ H1 H2 hk ⟨rfl,s4,rfl⟩ ⟨rfl,ez⟩
    rw [List.length_map] at hk ez
    have hk2:xs.length-1-k<xs.length:=by omega
    rw [zat hk2] at ez
    cases ez
    refine ⟨_,rfl,_,rfl,_,rfl,_,rfl,fa,p,m,t,val p m t x (xs.drop (xs.length-k)),x,rfl,hF,hp,hm,G.hq,G.top,ycp hp hm _ _,hx,fun r br h1=>?_⟩
    cases zdc hp hm br h1
    refine ⟨_,rfl,fa,p,m,t,mul p m t (val p m t x (xs.drop (xs.length-k))) x,xs.getD (xs.length-1-k) 0,rfl,hF,hp,hp2,fun r h2=>?_⟩
    cases yfv hp hm (zaN hp hm _ _) (zbi hy hk2) h2
    have e:xs.drop (xs.length-(k+1))=xs.getD (xs.length-1-k) 0::xs.drop (xs.length-k):=by
      rw [show xs.length-(k+1)=xs.length-1-k by omega,List.drop_eq_getElem_cons hk2]
      congr 1
      · simp [List.getD,hk2]
      · congr 1;omega
    refine ⟨rfl,some (Vn (xs.getD (xs.length-1-k) 0)),?_⟩
    rw [e];rfl
  · rw [List.length_map]
    rintro σ H1 ⟨rfl,s4,rfl⟩
    rw [Nat.sub_self,List.drop_zero]
    exact ⟨_,rfl,q⟩
theorem zdv:yaj ["_law_table_here","_law_one","_law_many"] ["_law_table_here","_law_one","_law_many"] (zad ya0):=⟨rfl,rfl,rfl,by decide +kernel,rfl,by decide +kernel,by decide +kernel⟩
end
end My
end
section
-- text: PD
namespace My
open PySem L2 Dg
structure Ord (p m t x n:Nat):Prop where
  pos:1≤n
  one:pw p m t x n=1
  min:∀i,0<i→i<n→pw p m t x i≠1
theorem Ord.le {p m t x n k:Nat} (o:Ord p m t x n) (h0:0<k) (h:pw p m t x k=1):n≤k:=by
  rcases Nat.lt_or_ge k n with h1|h1
  · exact absurd h (o.min k h0 h1)
  · exact h1
theorem Ord.uniq {p m t x n k:Nat} (o:Ord p m t x n) (o':Ord p m t x k):n=k:=Nat.le_antisymm (o.le o'.pos o'.one) (o'.le o.pos o.one)
theorem ydq (x:Nat):decide (Vn x=V.int 1)=decide (x=1):=decide_eq_decide.mpr ⟨fun e=>by injection e with e;omega,fun e=>by rw [e];rfl⟩
section
variable {P:Program} {w:World} {K:PySem.W.Frag} {mg:Str→Option Value} {base:Heap} {f:Addr} {fd:FuncData}
def zez (K:PySem.W.Frag):Sp:=fun vs H Q _=>∃(fa:Addr) (p m t x:Nat),vs=[.ref fa,Vn x]∧Fld K H fa p m t∧Good p m t∧0<x∧x<p^m∧∀n,Ord p m t x n→n≤p^m-1→Q (Vn n) H
theorem ybn:yaj ["field","one","many","product"] ["field","one"] (zad ybm):=⟨rfl,rfl,rfl,by decide +kernel,rfl,by decide +kernel,by decide +kernel⟩
theorem yfR (B:Bl mg) (h_times:Has P w K mg base 3 "times" ["field","one","other"] (zcv K)) (F:Fun K "round_of" "round_of" ybm f fd):FnOk P w K mg base CX0 4 f fd ["field","one"] (zez K):=by
  refine F.ok ybn (fun vs H Q E h=>?_) (fun cdv A outer s H vs Q E hr h=>?_)
  · obtain ⟨fa,p,m,t,x,rfl,_⟩:=h;rfl
  obtain ⟨fa,p,m,t,x,rfl,hF,G,h0,hx,q⟩:=h
  have hp:=G.hp
  have hm:=G.hm
  have hQ:=G.hq
  have hQ2:=zaM hp hm
  refine ⟨_,(yab (@zag _ _ 2 _ _ _ _ ybn.nd rfl (Or.inl rfl) yac (by rfl) (by trivial)) (yab (@zag _ _ 3 _ _ _ _ ybn.nd rfl (Or.inl rfl) (pv 1) (by rfl) (by trivial)) (yab (@zaT _ _ _ _ _ _ PassesOwn.never (@zai _ _ _ _ _ _ _ _ zdr (pv 3) yac (yal _)) (yab (@zag _ _ 3 _ _ _ _ ybn.nd rfl (Or.inl rfl) (yad h_times hr (by decide) rfl (zaa (pv 0) (zaa (pv 3) (zaa (pv 1) yaa (by rfl)) (by rfl)) (by rfl)) (by decide) (by rfl) (by rfl)) (by rfl) (by trivial)) (zae (@zbS _ _ 2 _ _ _ _ _ _ ybn.nd rfl (Or.inl rfl) yac zd0 (by trivial))))) (zae (@zal _ _ _ _ (pv 2)))))),?_⟩
  refine ⟨_,rfl,?_⟩
  refine yaW (fun σ H'=>H'=H∧∃k,1≤k∧k≤p^m-1∧σ=[some (.ref fa),some (Vn x),some (Vn k),some (Vn (pw p m t x k))]∧∀i,0<i→i<k→pw p m t x i≠1) (fun σ _=>p^m-mI σ 2) ⟨rfl,1,by omega,by omega,by rw [yb9 hp hm hx];rfl,fun i h1 h2=>by omega⟩ ?_
  rintro σ H' ⟨rfl,k,hk1,hk2,rfl,hne⟩
  refine ⟨_,rfl,rfl,_,rfl,?_⟩
  rw [ydq]
  refine ite2 (fun c=>?_) (fun c=>?_)
  · have hk:pw p m t x k≠1:=by
      intro e
      rw [decide_eq_true e] at c
      exact absurd c (by decide)
    have hk3:k<p^m-1:=by
      rcases Nat.lt_or_ge k (p^m-1) with h|h
      · exact h
      · have:k=p^m-1:=by omega
        rw [this] at hk
        exact absurd (G.fermat h0 hx) hk
    refine ⟨fun σ' H''=>H''=H'∧σ'=[some (.ref fa),some (Vn x),some (Vn (k+1)),some (Vn (pw p m t x (k+1)))],?_,?_⟩
    · rintro σ' H'' ⟨rfl,rfl⟩
      refine ⟨_,?_,rfl,rfl,k+1,by omega,by omega,rfl,fun i h1 h2=>?_⟩
      · show p^m-(k+1)<p^m-k;omega
      · rcases Nat.lt_or_ge i k with h|h
        · exact hne i h1 h
        · rw [show i=k by omega];exact hk
    · refine ⟨_,rfl,_,rfl,_,rfl,fa,p,m,t,pw p m t x k,x,rfl,hF,hp,hm,hQ,G.top,zbo hp hm _ _,hx,fun r br h1=>?_⟩
      cases zdc hp hm br h1
      exact ⟨_,rfl,_,_,rfl,rfl,rfl,rfl⟩
  · have hk:pw p m t x k=1:=by
      rcases Nat.decEq (pw p m t x k) 1 with h|h
      · exact absurd (by rw [decide_eq_false h];rfl) c
      · exact h
    exact ⟨_,rfl,q k ⟨hk1,hk,hne⟩ hk2⟩
def zdY (K:PySem.W.Frag):Sp:=fun vs H Q _=>∃(wa fa:Addr) (p m t few x:Nat) (mv:V),vs=[.ref wa]∧SqT K H wa [.ref fa,Vn few,Vn x,mv]∧Fld K H fa p m t∧Good p m t∧0<x∧x<p^m∧∀n,Ord p m t x n→n≤p^m-1→Q (Vn n) H
theorem zeX:yaj ["wheel"] ["wheel"] (zad yb4):=⟨rfl,rfl,rfl,by decide +kernel,rfl,by decide +kernel,by decide +kernel⟩
theorem yfq (B:Bl mg) (h_round_of:Has P w K mg base 4 "round_of" ["field","one"] (zez K)) (F:Fun K "length" "length" yb4 f fd):FnOk P w K mg base CX0 5 f fd ["wheel"] (zdY K):=by
  refine F.ok zeX (fun vs H Q E h=>?_) (fun cdv A outer s H vs Q E hr h=>?_)
  · obtain ⟨wa,fa,p,m,t,few,x,mv,rfl,_⟩:=h;rfl
  obtain ⟨wa,fa,p,m,t,few,x,mv,rfl,hw,hF,G,h0,hx,q⟩:=h
  refine ⟨_,(zae (@zal _ _ _ _ (yad h_round_of hr (by decide) rfl (zaa (zan yas (pv 0) yac (fun _ _=>rfl)) (zaa (zan yas (pv 0) yac (fun _ _=>rfl)) yaa (by rfl)) (by rfl)) (by decide) (by rfl) (by rfl)))),?_⟩
  refine ⟨_,rfl,wa,_,_,_,rfl,rfl,hw,rfl,?_⟩
  refine ⟨_,rfl,wa,_,_,_,rfl,rfl,hw,rfl,?_⟩
  exact ⟨fa,p,m,t,x,rfl,hF,G,h0,hx,q⟩
def ycL:Sp:=fun vs H Q _=>∃(tb fa pa la:Addr) (p m t b x:Nat),vs=[.ref tb,Vn x]∧Tab H tb fa pa la p m t b∧0<x∧x<p^m∧∀n,Ord p m t x n→n≤p^m-1→Q (Vn n) H
theorem ybK:yaj ["_law_table_here","_law_one","_law_many","_law_thing"] ["_law_table_here","_law_one"] (zad za1):=⟨rfl,rfl,rfl,by decide +kernel,rfl,by decide +kernel,by decide +kernel⟩
theorem yfr (B:Bl mg) (h__law_times:Has P w K mg base 1 "_law_times" ["_law_table_here","_law_one","_law_other"] ybF) (F:Fun K "_law_round" "_law_round" za1 f fd):FnOk P w K mg base CX0 2 f fd ["_law_table_here","_law_one"] ycL:=by
  refine F.ok ybK (fun vs H Q E h=>?_) (fun cdv A outer s H vs Q E hr h=>?_)
  · obtain ⟨tb,fa,pa,la,p,m,t,b,x,rfl,_⟩:=h;rfl
  obtain ⟨tb,fa,pa,la,p,m,t,b,x,rfl,T,h0,hx,q⟩:=h
  have G:=T.good
  have hp:=G.hp
  have hm:=G.hm
  have hQ:=G.hq
  have hQ2:=zaM hp hm
  refine ⟨_,(yab (@ybB _ _ 2 3 _ _ _ _ _ _ _ _ _ _ _ rfl ybK.nd rfl rfl (by decide) rfl rfl (zaa yac (zaa (pv 1) yaa (by rfl)) (by rfl)) rfl (by rfl)) (yab (@zaT _ _ _ _ _ _ PassesOwn.never (@zai _ _ _ _ _ _ _ _ zdr (pv 3) yac (yal _)) (zae (@ybB _ _ 2 3 _ _ _ _ _ _ _ _ _ _ _ rfl ybK.nd rfl rfl (by decide) rfl rfl (zaa (yaf yar (pv 2) yac) (zaa (yad h__law_times hr (by decide) rfl (zaa (pv 0) (zaa (pv 3) (zaa (pv 1) yaa (by rfl)) (by rfl)) (by rfl)) (by decide) (by rfl) (by rfl)) yaa (by rfl)) (by rfl)) rfl (by rfl)))) (zae (@zal _ _ _ _ (pv 2))))),?_⟩
  refine ⟨_,rfl,_,_,rfl,?_⟩
  refine yaW (fun σ H'=>H'=H∧∃k,1≤k∧k≤p^m-1∧σ=[some (.ref tb),some (Vn x),some (Vn k),some (Vn (pw p m t x k))]∧∀i,0<i→i<k→pw p m t x i≠1) (fun σ _=>p^m-mI σ 2) ⟨rfl,1,by omega,by omega,by rw [yb9 hp hm hx];rfl,fun i h1 h2=>by omega⟩ ?_
  rintro σ H' ⟨rfl,k,hk1,hk2,rfl,hne⟩
  refine ⟨_,rfl,rfl,_,rfl,?_⟩
  rw [ydq]
  refine ite2 (fun c=>?_) (fun c=>?_)
  · have hk:pw p m t x k≠1:=by
      intro e
      rw [decide_eq_true e] at c
      exact absurd c (by decide)
    have hk3:k<p^m-1:=by
      rcases Nat.lt_or_ge k (p^m-1) with h|h
      · exact h
      · have:k=p^m-1:=by omega
        rw [this] at hk
        exact absurd (G.fermat h0 hx) hk
    refine ⟨fun σ' H''=>H''=H'∧σ'=[some (.ref tb),some (Vn x),some (Vn (k+1)),some (Vn (pw p m t x (k+1)))],?_,?_⟩
    · rintro σ' H'' ⟨rfl,rfl⟩
      refine ⟨_,?_,rfl,rfl,k+1,by omega,by omega,rfl,fun i h1 h2=>?_⟩
      · show p^m-(k+1)<p^m-k;omega
      · rcases Nat.lt_or_ge i k with h|h
        · exact hne i h1 h
        · rw [show i=k by omega];exact hk
    · refine ⟨_,rfl,_,_,rfl,rfl,_,rfl,_,rfl,_,rfl,tb,fa,pa,la,p,m,t,b,pw p m t x k,x,rfl,T,zbo hp hm _ _,hx,?_⟩
      exact ⟨_,_,rfl,rfl,rfl⟩
  · have hk:pw p m t x k=1:=by
      rcases Nat.decEq (pw p m t x k) 1 with h|h
      · exact absurd (by rw [decide_eq_false h];rfl) c
      · exact h
    exact ⟨_,rfl,q k ⟨hk1,hk,hne⟩ hk2⟩
theorem ygc {xs:List V} {v:V} (h:xs[xs.length-1]?=some v):atI xs (-1)=some v:=by
  have hl:0<xs.length:=by
    have:=(List.getElem?_eq_some_iff.mp h).1;omega
  unfold atI ixN
  rw [if_neg (by decide),if_pos (by omega)]
  show (some _).bind _=_
  rw [Option.bind_some,←h]
  congr 1
  omega
end
end My
end
section
-- text: PE
namespace My
open PySem L2 Dg
local macro_rules | `(tactic| walk_at "rd") => `(tactic| repeat (first | refine ⟨_, rfl, ?_⟩ | refine ⟨_, _, rfl, rfl, ?_⟩))
def ycj (p m t c:Nat) (xs:List Nat):List Nat:=(List.range xs.length).map fun i=>mul p m t c (xs.getD i 0)
def pwz (p m t x:Nat) (z:Int):Nat:=if x=0 then (if z=0 then 1 else 0) else pw p m t x (z%(((p^m:Nat):Int)-1)).toNat
section
variable {p m t:Nat} (G:Good p m t)
include G
theorem yex (c:Nat) (xs:List Nat):∀x∈ycj p m t c xs,x<p^m:=fun x hx=>by
  obtain ⟨i,_,rfl⟩:=List.mem_map.mp hx
  exact zaN G.hp G.hm _ _
theorem ygF {x k:Nat} (hx:x<p^m):pw p m t x k=mul p m t (if k%2=1 then x else 1) (pw p m t (mul p m t x x) (k/2)):=by
  have e2:pw p m t x 2=mul p m t x x:=by show mul p m t (mul p m t 1 x) x=_;rw [one_mul G.hp G.hm hx]
  by_cases c:k%2=1
  · rw [if_pos c,←e2,←zbE G.hp G.hm]
    rw [show pw p m t x k=pw p m t x (1+2*(k/2)) by congr 1;omega,ybR G.hp G.hm,yb9 G.hp G.hm hx]
  · rw [if_neg c,←e2,←zbE G.hp G.hm,one_mul G.hp G.hm (zbo G.hp G.hm _ _)]
    congr 1;omega
theorem zcI {x:Nat} (hx:x<p^m) (n:Nat):pwz p m t x (n:Int)=pw p m t x n:=by
  unfold pwz
  have hQ:=zaM G.hp G.hm
  by_cases c:x=0
  · rw [if_pos c,c]
    cases n with
    | zero=>rfl
    | succ n=>rw [zcf G.hp G.hm,if_neg (by omega)]
  · rw [if_neg c,show ((n:Int)%(((p^m:Nat):Int)-1)).toNat=n%(p^m-1) from ?_,G.pw_mod (by omega) hx]
    rw [show ((p^m:Nat):Int)-1=((p^m-1:Nat):Int) by omega,←Int.natCast_emod];rfl
theorem zhy {x:Nat} (h0:0<x) (hx:x<p^m):pwz p m t x (-1)=pw p m t x (p^m-2):=by
  unfold pwz
  have hQ:=zaM G.hp G.hm
  rw [if_neg (by omega)]
  by_cases c:p^m=2
  · rw [c];rfl
  · have e:((-1:Int)%(((p^m:Nat):Int)-1))=((p^m-2:Nat):Int):=by
      have h1:=Int.emod_nonneg (-1) (show ((p^m:Nat):Int)-1≠0 by omega)
      rw [show (-1:Int)=((p^m-2:Nat):Int)+(((p^m:Nat):Int)-1)*(-1) by omega,Int.add_mul_emod_self_left]
      exact Int.emod_eq_of_lt (by omega) (by omega)
    rw [e];rfl
end
section
variable {P:Program} {w:World} {K:PySem.W.Frag} {mg:Str→Option Value} {base:Heap} {f:Addr} {fd:FuncData}
def zef (K:PySem.W.Frag):Sp:=fun vs H Q _=>∃(a:Addr) (p m t:Nat),vs=[.ref a]∧Fld K H a p m t∧p≤64∧m≤1000∧Q (Vn (p^m)) H
theorem zc0:yaj ["field"] ["field"] (zad zaX):=⟨rfl,rfl,rfl,by decide +kernel,rfl,by decide +kernel,by decide +kernel⟩
theorem zgR (B:Bl mg) (h_number_power:Has P w K mg base 1 "number_power" ["base","many"] zap) (F:Fun K "many_things" "many_things" zaX f fd):FnOk P w K mg base CX0 2 f fd ["field"] (zef K):=by
  refine F.ok zc0 (fun vs H Q E h=>?_) (fun cdv A outer s H vs Q E hr h=>?_)
  · obtain ⟨a,p,m,t,rfl,_⟩:=h;rfl
  obtain ⟨a,p,m,t,rfl,hF,hp,hm,q⟩:=h
  refine ⟨_,(zae (@zal _ _ _ _ (yad h_number_power hr (by decide) rfl (zaa (zan yas (pv 0) yac (fun _ _=>rfl)) (zaa (zan yas (pv 0) yac (fun _ _=>rfl)) yaa (by rfl)) (by rfl)) (by decide) (by rfl) (by rfl)))),?_⟩
  refine ⟨_,rfl,a,_,_,_,rfl,rfl,hF,rfl,_,rfl,a,_,_,_,rfl,rfl,hF,rfl,p,m,rfl,hp,hm,q⟩
def zdQ (K:PySem.W.Frag):Sp:=fun vs H Q _=>∃(a:Addr) (p m t x n:Nat),vs=[.ref a,Vn x,Vn n]∧Fld K H a p m t∧Good p m t∧x<p^m∧Q (Vn (pw p m t x n)) H
theorem yaS:yaj ["field","one","many","product"] ["field","one","many"] (zad zaJ):=⟨rfl,rfl,rfl,by decide +kernel,rfl,by decide +kernel,by decide +kernel⟩
theorem ze7 (B:Bl mg) (h_times:Has P w K mg base 3 "times" ["field","one","other"] (zcv K)) (F:Fun K "times_itself" "times_itself" zaJ f fd):FnOk P w K mg base CX0 4 f fd ["field","one","many"] (zdQ K):=by
  refine F.ok yaS (fun vs H Q E h=>?_) (fun cdv A outer s H vs Q E hr h=>?_)
  · obtain ⟨a,p,m,t,x,n,rfl,_⟩:=h;rfl
  obtain ⟨a,p,m,t,x,n,rfl,hF,G,hx,q⟩:=h
  have hp:=G.hp
  have hm:=G.hm
  refine ⟨_,(yab (@zag _ _ 3 _ _ _ _ yaS.nd rfl (Or.inl rfl) yac (by rfl) (by trivial)) (yab (@zaT _ _ _ _ _ _ PassesOwn.never (@zai _ _ _ _ _ _ _ _ ycb (pv 2) yac (yal _)) (yab (@yba _ _ _ _ _ _ _ _ (@zai _ _ _ _ _ _ _ _ zbr (yaf zaz (pv 2) yac) yac (yal _)) (zae (@zag _ _ 3 _ _ _ _ yaS.nd rfl (Or.inl rfl) (yad h_times hr (by decide) rfl (zaa (pv 0) (zaa (pv 3) (zaa (pv 1) yaa (by rfl)) (by rfl)) (by rfl)) (by decide) (by rfl) (by rfl)) (by rfl) (by trivial))) zax) (yab (@zbS _ _ 2 _ _ _ _ _ _ yaS.nd rfl (Or.inl rfl) yac ycR (by trivial)) (zae (@yba _ _ _ _ _ _ _ _ (@zai _ _ _ _ _ _ _ _ ycb (pv 2) yac (yal _)) (zae (@zag _ _ 1 _ _ _ _ yaS.nd rfl (Or.inl rfl) (yad h_times hr (by decide) rfl (zaa (pv 0) (zaa (pv 1) (zaa (pv 1) yaa (by rfl)) (by rfl)) (by rfl)) (by decide) (by rfl) (by rfl)) (by rfl) (by trivial))) zax))))) (zae (@zal _ _ _ _ (pv 3))))),?_⟩
  refine yaW (fun σ H'=>H'=H∧∃(o k pr:Nat),σ=[some (.ref a),some (Vn o),some (Vn k),some (Vn pr)]∧o<p^m∧pr<p^m∧mul p m t pr (pw p m t o k)=pw p m t x n)
    (fun σ _=>mI σ 2) ⟨rfl,x,n,1,rfl,hx,zaM hp hm,one_mul hp hm (zbo hp hm _ _)⟩ ?_
  rintro σ H' ⟨rfl,o,k,pr,rfl,ho,hpr,he⟩
  walk_at "rd"
  refine ite2 (fun c=>?_) (fun c=>?_)
  · have c':0<k:=by have:=of_decide_eq_true c;omega
    refine ⟨fun σ' H''=>H''=H'∧∃(o' pr':Nat),σ'=[some (.ref a),some (Vn o'),some (Vn (k/2)),some (Vn pr')]∧o'<p^m∧pr'<p^m∧mul p m t pr' (pw p m t o' (k/2))=pw p m t x n,?_,?_⟩
    · rintro σ' H'' ⟨rfl,o',pr',rfl,b1,b2,b3⟩
      exact ⟨_,by show k/2<k;exact Nat.div_lt_self c' (by omega),rfl,rfl,o',k/2,pr',rfl,b1,b2,b3⟩
    refine ybh (fun σ' H''=>H''=H'∧∃pr':Nat,σ'=[some (.ref a),some (Vn o),some (Vn k),some (Vn pr')]∧pr'<p^m∧mul p m t pr' (pw p m t (mul p m t o o) (k/2))=pw p m t x n) ?_ ?_
    · rintro σ' H'' ⟨rfl,pr',rfl,hpr',he'⟩
      walk_at "rd"
      refine ⟨⟨by show (0:Int)<2;decide,by show (2:Int)<2^64;decide⟩,?_⟩
      walk_at "rd"
      refine ite2 (fun c2=>?_) (fun c2=>?_)
      · refine ⟨_,rfl,_,rfl,_,rfl,a,p,m,t,o,o,rfl,hF,hp,hm,G.hq,G.top,ho,ho,fun r br hr=>?_⟩
        cases zdc hp hm br hr
        exact ⟨rfl,_,pr',rfl,zaN hp hm _ _,hpr',he'⟩
      · have k0:k/2=0:=by
          have:=of_decide_eq_false (Bool.eq_false_iff.mpr c2)
          have e:((k/2:Nat):Int)=(k:Int)/2:=rfl
          omega
        rw [k0] at he'
        refine ⟨rfl,o,pr',rfl,ho,hpr',?_⟩
        rw [k0];exact he'
    · intro D' _ _ _ hD'
      refine ⟨_,rfl,_,_,rfl,rfl,by show (0:Int)<2;decide,rfl,_,rfl,?_⟩
      have ed:decide (V.int ((k:Int)%2)=V.int 1)=decide (k%2=1):=decide_eq_decide.mpr ⟨fun e=>by injection e with e;omega,fun e=>by congr 1;omega⟩
      rw [ed]
      rw [ygF G ho,←mul_assoc hp hm] at he
      refine ite2 (fun c2=>?_) (fun c2=>?_)
      · have c3:k%2=1:=of_decide_eq_true c2
        rw [if_pos c3] at he
        refine ⟨_,rfl,_,rfl,_,rfl,a,p,m,t,pr,o,rfl,hF,hp,hm,G.hq,G.top,hpr,ho,fun r br hr=>?_⟩
        cases zdc hp hm br hr
        exact hD' _ _ ⟨rfl,_,rfl,zaN hp hm _ _,he⟩
      · have c3:¬ k%2=1:=fun h=>c2 (decide_eq_true h)
        rw [if_neg c3,mul_one hp hm hpr] at he
        exact hD' _ _ ⟨rfl,_,rfl,hpr,he⟩
  · have c':k=0:=by have:=of_decide_eq_false (Bool.eq_false_iff.mpr c);omega
    subst c'
    refine ⟨_,rfl,?_⟩
    have e:pr=pw p m t x n:=by rw [←he];exact (mul_one hp hm hpr).symm
    rw [e]
    exact q
def ycv:Sp:=fun vs H Q _=>∃(tb fa pa la:Addr) (p m t b x:Nat) (z:Int),vs=[.ref tb,Vn x,.int z]∧Tab H tb fa pa la p m t b∧x<p^m∧Q (Vn (pwz p m t x z)) H
theorem yfQ (B:Bl mg) (F:Fun K "_law_power" "_law_power" ya0 f fd):FnOk P w K mg base CX0 1 f fd ["_law_table_here","_law_one","_law_many"] ycv:=by
  refine F.ok zdv (fun vs H Q E h=>?_) (fun cdv A outer s H vs Q E hr h=>?_)
  · obtain ⟨tb,fa,pa,la,p,m,t,b,x,n,rfl,_⟩:=h;rfl
  obtain ⟨tb,fa,pa,la,p,m,t,b,x,z,rfl,T,hx,q⟩:=h
  have hp:=T.good.hp
  have hm:=T.good.hm
  have hQ2:=zaM hp hm
  have hQ:=T.good.hq
  unfold pwz at q
  refine ⟨_,(yab (@yba _ _ _ _ _ _ _ _ (@zai _ _ _ _ _ _ _ _ zbr (pv 1) yac (yal _)) (zae (@zal _ _ _ _ (yaq yfl rfl (B "int" (by decide)) zcD (zaa (@ycn _ _ _ _ _ _ _ _ zbr (pv 2) yac (yal _)) yaa (by rfl)) (by decide) (by decide) (by rfl) (by rfl)))) zax) (zae (@zal _ _ _ _ (zan zaq (@yaz _ _ _ _ _ _ (zbn hr) (pv 0) yaF (fun _ _=>rfl)) (yaf zaz (yaf yaX (@yaz _ _ _ _ _ _ (zbn hr) (@yaz _ _ _ _ _ _ (zbn hr) (pv 0) yaF (fun _ _=>rfl)) (pv 1) (fun _ _=>rfl)) (pv 2)) (yaf ybq (@yaz _ _ _ _ _ _ (zbn hr) (pv 0) yaF (fun _ _=>rfl)) yac)) (fun _ _=>rfl))))),?_⟩
  refine ⟨_,rfl,rfl,_,rfl,?_⟩
  rw [yb2]
  refine ite2 (fun c=>?_) (fun c=>?_)
  · have x0:x=0:=of_decide_eq_true c
    rw [if_pos x0] at q
    refine ⟨_,rfl,rfl,.inr ⟨_,rfl,?_⟩⟩
    by_cases cz:z=0
    · rw [if_pos cz] at q
      rw [if_pos (decide_eq_true (by rw [cz]))]
      exact q
    · rw [if_neg cz] at q
      rw [if_neg (fun h=>cz (by have:=of_decide_eq_true h;injection this))]
      exact q
  · have x0:0<x:=by
      have:¬ x=0:=fun h=>c (decide_eq_true h)
      omega
    rw [if_neg (by omega)] at q
    obtain ⟨i,hi,ei⟩:=T.prim.all x x0 hx
    have gi:=T.log hi
    rw [ei] at gi
    refine ⟨_,rfl,tb,_,rfl,T.get yda,?_⟩
    refine ⟨_,rfl,tb,_,rfl,T.get zdk,_,rfl,la,_,rfl,gi,_,rfl,_,_,rfl,rfl,.inl ⟨by omega,by omega⟩,?_⟩
    refine ⟨_,rfl,tb,_,rfl,T.get zb0,_,_,rfl,rfl,_,_,rfl,rfl,by show (0:Int)<((p^m:Nat):Int)-1;omega,?_⟩
    have hz0:=Int.emod_nonneg z (show ((p^m:Nat):Int)-1≠0 by omega)
    have hz1:=Int.emod_lt_of_pos z (show (0:Int)<((p^m:Nat):Int)-1 by omega)
    obtain ⟨n,en⟩:=Int.eq_ofNat_of_zero_le hz0
    rw [en] at q hz1
    have ek:((i:Int)*z)%(((p^m:Nat):Int)-1)=(((i*n)%(p^m-1):Nat):Int):=by
      rw [Int.mul_emod,en,Int.natCast_emod,Int.natCast_mul,Int.natCast_sub (by omega)]
      rw [Int.mul_emod]
      simp
      exact (Int.mul_emod _ _ _).symm
    have hk:(i*n)%(p^m-1)<p^m-1:=Nat.mod_lt _ (by omega)
    refine ⟨pa,_,_,Vn (pw p m t b ((i*n)%(p^m-1))),rfl,rfl,SqL.of T.w,?_,?_⟩
    · show atI _ (((i:Int)*z)%(((p^m:Nat):Int)-1))=_
      rw [ek]
      exact yaw (by unfold Pws;rw [List.getElem?_map,List.getElem?_map,List.getElem?_range hk];rfl)
    · have e:pw p m t b ((i*n)%(p^m-1))=pw p m t x n:=by
        rw [T.good.pw_mod T.prim.pos T.prim.lt,zbE hp hm,ei]
      rw [e]
      exact q
def ydJ:Sp:=fun vs H Q _=>∃(tb fa pa la:Addr) (p m t b x y:Nat),vs=[.ref tb,Vn x,Vn y]∧Tab H tb fa pa la p m t b∧x<p^m∧y<p^m∧Q (Vn (sub p m x y)) H
theorem zdh:yaj ["_law_table_here","_law_one","_law_other"] ["_law_table_here","_law_one","_law_other"] (zad ya2):=⟨rfl,rfl,rfl,by decide +kernel,rfl,by decide +kernel,by decide +kernel⟩
theorem zeY (B:Bl mg) (h__law_plus:Has P w K mg base 1 "_law_plus" ["_law_table_here","_law_one","_law_other"] ycx) (h__law_times:Has P w K mg base 1 "_law_times" ["_law_table_here","_law_one","_law_other"] ybF) (F:Fun K "_law_minus" "_law_minus" ya2 f fd):FnOk P w K mg base CX0 2 f fd ["_law_table_here","_law_one","_law_other"] ydJ:=by
  refine F.ok zdh (fun vs H Q E h=>?_) (fun cdv A outer s H vs Q E hr h=>?_)
  · obtain ⟨tb,fa,pa,la,p,m,t,b,x,y,rfl,_⟩:=h;rfl
  obtain ⟨tb,fa,pa,la,p,m,t,b,x,y,rfl,T,hx,hy,q⟩:=h
  have hp:=T.good.hp
  have hm:=T.good.hm
  have hpp:p≤p^m:=by simpa using Nat.pow_le_pow_right (show 0<p by omega) hm
  refine ⟨_,(zae (@zal _ _ _ _ (yad h__law_plus hr (by decide) rfl (zaa (pv 0) (zaa (pv 1) (zaa (yad h__law_times hr (by decide) rfl (zaa (pv 0) (zaa (yaf ybq (@yaz _ _ _ _ _ _ (zbn hr) (pv 0) yaF (fun _ _=>rfl)) yac) (zaa (pv 2) yaa (by rfl)) (by rfl)) (by rfl)) (by decide) (by rfl) (by rfl)) yaa (by rfl)) (by rfl)) (by rfl)) (by decide) (by rfl) (by rfl)))),?_⟩
  refine ⟨_,rfl,_,rfl,_,rfl,_,rfl,tb,_,rfl,T.get yfe,_,_,rfl,rfl,_,rfl,?_⟩
  refine ⟨tb,fa,pa,la,p,m,t,b,p-1,y,by show [_,V.int ((p:Int)-1),_]=_;rw [show (p:Int)-1=((p-1:Nat):Int) by omega],T,by omega,hy,?_⟩
  refine ⟨tb,fa,pa,la,p,m,t,b,x,mul p m t (p-1) y,rfl,T,hx,zaN hp hm _ _,?_⟩
  rw [yfk hp hm hx hy]
  exact q
end
end My
end
section
-- text: PF
namespace My
open PySem L2 Dg
local macro_rules | `(tactic| walk_at "rd") => `(tactic| repeat (first | refine ⟨_, rfl, ?_⟩ | refine ⟨_, _, rfl, rfl, ?_⟩))
section
variable {P:Program} {w:World} {K:PySem.W.Frag} {mg:Str→Option Value} {base:Heap} {f:Addr} {fd:FuncData}
end
end My
end
section
-- text: PJ
namespace My
open PySem L2 Dg
local macro_rules | `(tactic| walk_at "rd") => `(tactic| repeat (first | refine ⟨_, rfl, ?_⟩ | refine ⟨_, _, rfl, rfl, ?_⟩))
section
variable {p m t:Nat} (G:Good p m t)
include G
theorem Ord.dvd {x n k:Nat} (hx:x<p^m) (o:Ord p m t x n) (h:pw p m t x k=1):k%n=0:=by
  have hp:=G.hp
  have hm:=G.hm
  rcases Nat.eq_zero_or_pos (k%n) with c|c
  · exact c
  · have e:pw p m t x (n*(k/n)+k%n)=1:=by rw [Nat.div_add_mod];exact h
    rw [ybR hp hm,zbE hp hm,o.one,zcb hp hm,one_mul hp hm (zbo hp hm _ _)] at e
    exact absurd e (o.min _ c (Nat.mod_lt _ (by have:=o.pos;omega)))
theorem Ord.round {x n few:Nat} (h0:0<x) (hx:x<p^m) (o:Ord p m t x n) (hf:m%few=0) (hf1:1≤few):(p^few)^(m/few)%n=1%n:=by
  have hp:=G.hp
  have hm:=G.hm
  have h1:=Ord.dvd G hx o (G.fermat h0 hx)
  have hQ:=zaM hp hm
  have e:few*(m/few)=m:=by have:=Nat.div_add_mod m few;rw [hf] at this;omega
  rw [←Nat.pow_mul,e]
  obtain ⟨c,hc⟩:=Nat.dvd_of_mod_eq_zero h1
  rw [show p^m=1+n*c by omega,Nat.add_mul_mod_self_left]
end
section
variable {P:Program} {w:World} {K:PySem.W.Frag} {mg:Str→Option Value} {base:Heap} {f:Addr} {fd:FuncData}
def zbM (i n q L:Nat):List Nat:=(List.range L).map fun j=>i*q^j%n
theorem ydG {i n q L j:Nat} (h:j<L):(zbM i n q L).getD j 0=i*q^j%n:=by unfold zbM;rw [List.getD_eq_getElem?_getD,List.getElem?_map,List.getElem?_range h];rfl
theorem ydW {q e n:Nat} (hr:q^e%n=1%n) (he:1≤e) (i a:Nat):i*q^a*q^(e*a-a)%n=i%n:=by
  have h:a≤e*a:=Nat.le_mul_of_pos_left a he
  rw [Nat.mul_assoc,←Nat.pow_add,show a+(e*a-a)=e*a by omega,Nat.pow_mul,Nat.mul_mod,Nat.pow_mod,hr,←Nat.pow_mod,Nat.one_pow,←Nat.mul_mod,Nat.mul_one]
theorem zeG {i n q e L:Nat} (hr:q^e%n=1%n) (he:1≤e) (h:∀j,0<j→j<L→i*q^j%n≠i%n):(zbM i n q L).Nodup:=by
  refine zbX _ fun a b ha hb e1=>?_
  have key:∀a b:Nat,a<b→b<L→i*q^a%n=i*q^b%n→False:=fun a b hab hb e1=>by
    refine h (b-a) (by omega) (by omega) ?_
    have e2:=ydW hr he i a
    rw [Nat.mul_mod,e1,←Nat.mul_mod,show i*q^b=i*q^(b-a)*q^a by rw [Nat.mul_assoc,←Nat.pow_add,show b-a+a=b by omega],ydW hr he] at e2
    exact e2
  rcases Nat.lt_trichotomy a b with h1|h1|h1
  · exact (key a b h1 hb e1).elim
  · exact h1
  · exact (key b a h1 ha e1.symm).elim
theorem yf5 {i n q L:Nat} (heq:i*q^L%n=i*q^0%n) (hL:0<L) (j:Nat):i*q^j%n∈zbM i n q L:=by
  induction j with
  | zero=>exact List.mem_map.mpr ⟨0,List.mem_range.mpr hL,rfl⟩
  | succ j ih =>
    obtain ⟨k,hk,ek⟩:=List.mem_map.mp ih
    have hk:=List.mem_range.mp hk
    have e2:i*q^(j+1)%n=i*q^(k+1)%n:=by
      rw [Nat.pow_succ,Nat.pow_succ,←Nat.mul_assoc,←Nat.mul_assoc,Nat.mul_mod,←ek,←Nat.mul_mod]
    rw [e2]
    by_cases c:k+1<L
    · exact List.mem_map.mpr ⟨k+1,List.mem_range.mpr c,rfl⟩
    · rw [show k+1=L by omega,heq]
      exact List.mem_map.mpr ⟨0,List.mem_range.mpr hL,rfl⟩
def ycu:Sp:=fun vs H Q _=>∃(i n q e:Nat),vs=[Vn i,Vn n,Vn q]∧0<n∧n≤64∧q≤64∧1≤e∧e≤6∧q^e%n=1%n∧
  ∀r (ns:List Nat) H',Same H H'→H r=none→H' r=some (.lst (ns.map Vn))→0<ns.length→ns.length≤6→(∀x∈ns,x<n)→(∀x∈ns,x*q%n∈ns)→ns.Nodup→(∀x∈ns,∃j,x=i*q^j%n)→(∀j,i*q^j%n∈ns)→Q (.ref r) H'
theorem zcs:yaj ["_law_i","_law_n","_law_q","_law_found"] ["_law_i","_law_n","_law_q"] (zad za9):=⟨rfl,rfl,rfl,by decide +kernel,rfl,by decide +kernel,by decide +kernel⟩
theorem yfU (B:Bl mg) (F:Fun K "_law_ring" "_law_ring" za9 f fd):FnOk P w K mg base CX0 1 f fd ["_law_i","_law_n","_law_q"] ycu:=by
  refine F.ok zcs (fun vs H Q E h=>?_) (fun cdv A outer s H vs Q E hr h=>?_)
  · obtain ⟨i,n,q,e,rfl,_⟩:=h;rfl
  obtain ⟨i,n,q,e,rfl,hn,hn2,hq,he1,he2,hr1,q'⟩:=h
  refine ⟨_,(yab (@zag _ _ 3 _ _ _ _ zcs.nd rfl (Or.inl rfl) (@zaE _ _ _ _ (zaa (yaf zaz (pv 0) (pv 1)) yaa (by rfl))) (by rfl) (by trivial)) (yab (@zaT _ _ _ _ _ _ PassesOwn.never (@zai _ _ _ _ _ _ _ _ zdr (yaf zaz (yaf yaX (zan zaq (pv 3) (@zeN _ _ _ _ _ _ yc7 yac) (fun _ _=>rfl)) (pv 2)) (pv 1)) (zan zaq (pv 3) yac (fun _ _=>rfl)) (yal _)) (zae (@ybV _ _ _ _ (@zcG _ _ _ _ _ _ _ _ _ _ _ _ PySem.F.plainAttrs_list PySem.F.slot_list_append PySem.F.type_list_append ybp (pv 3) (zaa (yaf zaz (yaf yaX (zan zaq (pv 3) (@zeN _ _ _ _ _ _ yc7 yac) (fun _ _=>rfl)) (pv 2)) (pv 1)) yaa (by rfl)) (by rfl) (by rfl) (by rfl) (by rfl) (by rfl)) (by rfl)))) (zae (@zal _ _ _ _ (pv 3))))),?_⟩
  refine ⟨_,rfl,_,rfl,_,_,rfl,rfl,by show (0:Int)<n;omega,szl 1,fun l hl=>?_⟩
  dsimp only [zau]
  refine yaW (fun σ H'=>∃L:Nat,1≤L∧L≤e∧(∀j,0<j→j<L→i*q^j%n≠i%n)∧H'=upd H l (.lst ((zbM i n q L).map Vn))∧σ=[some (Vn i),some (Vn n),some (Vn q),some (.ref l)]) (fun _ H'=>7-zdq H' l) ⟨1,Nat.le_refl _,he1,fun j _ _=>by omega,by simp [zbM];rfl,rfl⟩ ?_
  rintro σ H' ⟨L,h1,h2,hne0,rfl,rfl⟩
  have el:upd H l (.lst ((zbM i n q L).map Vn)) l=some (.lst ((zbM i n q L).map Vn)):=zab
  have ll:(zbM i n q L).length=L:=by simp [zbM]
  have hlast:atI ((zbM i n q L).map Vn) (-1)=some (Vn (i*q^(L-1)%n)):=ygc (by rw [List.length_map,ll,zat (by omega),ydG (by omega)])
  have hfirst:atI ((zbM i n q L).map Vn) 0=some (Vn (i*q^0%n)):=yaw (j:=0) (by rw [zat (by omega),ydG (by omega)])
  have hml:i*q^(L-1)%n<n:=Nat.mod_lt _ hn
  refine ⟨_,rfl,_,rfl,l,_,_,_,rfl,rfl,SqL.of el,hlast,_,rfl,_,_,rfl,rfl,.inl ⟨by show -(2^64:Int)<((i*q^(L-1)%n:Nat):Int);omega,by show ((i*q^(L-1)%n:Nat):Int)<2^64;omega⟩,?_⟩
  refine ⟨_,rfl,_,_,rfl,rfl,by show (0:Int)<n;omega,?_⟩
  refine ⟨_,rfl,l,_,_,_,rfl,rfl,SqL.of el,hfirst,rfl,_,rfl,?_⟩
  have en:(i*q^(L-1)%n)*q%n=i*q^L%n:=by
    rw [Nat.mod_mul_mod,Nat.mul_assoc,←Nat.pow_succ,show (L-1).succ=L by omega]
  have e0:i*q^0%n=i%n:=by rw [Nat.pow_zero,Nat.mul_one]
  refine ite2 (fun c=>?_) (fun c=>?_)
  · have hne:i*q^L%n≠i%n:=by
      intro h
      have:(V.int ((((i*q^(L-1)%n:Nat):Int)*(q:Int))%(n:Int)))=Vn (i*q^0%n):=by
        show V.int _=V.int _
        congr 1
        rw [e0,←h,←en];rfl
      rw [decide_eq_true this] at c
      exact absurd c (by decide)
    have hL:L<e:=by
      rcases Nat.lt_or_ge L e with h|h
      · exact h
      · have hle:L=e:=by omega
        rw [hle] at hne
        refine absurd ?_ hne
        rw [Nat.mul_mod,hr1,←Nat.mul_mod,Nat.mul_one]
    refine ⟨fun σ' H'=>H'=upd H l (.lst ((zbM i n q (L+1)).map Vn))∧σ'=[some (Vn i),some (Vn n),some (Vn q),some (.ref l)],?_,?_⟩
    · rintro σ' H' ⟨rfl,rfl⟩
      refine ⟨_,?_,rfl,L+1,by omega,by omega,fun j j0 j1=>?_,rfl,rfl⟩
      case refine_2 =>
        rcases Nat.lt_or_ge j L with h|h
        · exact hne0 j j0 h
        · rw [show j=L by omega];exact hne
      rw [zb2 zab,zb2 zab,List.length_map,List.length_map,ll,show (zbM i n q (L+1)).length=L+1 by simp [zbM]]
      omega
    · refine ⟨_,rfl,.inl ⟨rfl,_,SqL.of el⟩,?_⟩
      refine ⟨_,rfl,_,rfl,l,_,_,_,rfl,rfl,SqL.of el,hlast,_,rfl,_,_,rfl,rfl,.inl ⟨by show -(2^64:Int)<((i*q^(L-1)%n:Nat):Int);omega,by show ((i*q^(L-1)%n:Nat):Int)<2^64;omega⟩,?_⟩
      refine ⟨_,rfl,_,_,rfl,rfl,by show (0:Int)<n;omega,?_⟩
      refine ⟨l,_,_,rfl,rfl,el,by rw [List.length_map,ll];exact zam (by omega),?_,rfl⟩
      rw [zd6]
      congr 2
      have e1:zbM i n q (L+1)=zbM i n q L++[i*q^L%n]:=by unfold zbM;rw [List.range_succ,List.map_append];rfl
      rw [e1,List.map_append,←en];rfl
  · have heq:i*q^L%n=i*q^0%n:=by
      have h:decide (V.int ((((i*q^(L-1)%n:Nat):Int)*(q:Int))%(n:Int))=Vn (i*q^0%n))=true:=by
        rcases hb:decide (V.int ((((i*q^(L-1)%n:Nat):Int)*(q:Int))%(n:Int))=Vn (i*q^0%n)) with _|_
        · exact absurd (show (!decide (V.int ((((i*q^(L-1)%n:Nat):Int)*(q:Int))%(n:Int))=Vn (i*q^0%n)))=true by rw [hb];rfl) c
        · rfl
      have h2:=V.int.inj (of_decide_eq_true h)
      rw [←en]
      exact Int.ofNat.inj h2
    refine ⟨_,rfl,q' l (zbM i n q L) _ (zac hl _) hl el (by rw [ll];omega) (by rw [ll];omega) (fun x hx=>?_) (fun x hx=>?_) ?_ (fun x hx=>?_) (yf5 heq (by omega))⟩
    rotate_left 2
    · refine zeG hr1 (by omega) hne0
    · obtain ⟨j,_,rfl⟩:=List.mem_map.mp hx
      exact ⟨j,rfl⟩
    · obtain ⟨j,_,rfl⟩:=List.mem_map.mp hx
      exact Nat.mod_lt _ hn
    · obtain ⟨j,hj,rfl⟩:=List.mem_map.mp hx
      have hj:=List.mem_range.mp hj
      have e2:i*q^j%n*q%n=i*q^(j+1)%n:=by rw [Nat.mod_mul_mod,Nat.mul_assoc,←Nat.pow_succ]
      rw [e2]
      by_cases cj:j+1<L
      · exact List.mem_map.mpr ⟨j+1,List.mem_range.mpr cj,rfl⟩
      · rw [show j+1=L by omega,heq]
        exact List.mem_map.mpr ⟨0,List.mem_range.mpr (by omega),rfl⟩
theorem yf9 (a b:Nat):decide (V.int ((a:Int)%(b:Int))=V.int 0)=decide (a%b=0) :=
  decide_eq_decide.mpr ⟨fun e=>Int.ofNat.inj (show Int.ofNat (a%b)=Int.ofNat 0 from V.int.inj e),fun e=>congrArg V.int (show Int.ofNat (a%b)=Int.ofNat 0 from congrArg Int.ofNat e)⟩
structure Whl (p m t few root n:Nat) (marks:List Nat):Prop where
  few1:1≤few
  fewm:m%few=0
  r0:0<root
  rq:root<p^m
  ord:Ord p m t root n
  nq:n≤p^m-1
  asc:marks.Pairwise (· < ·)
  lt:∀x∈marks,x<n
  closed:∀x∈marks,x*p^few%n∈marks
structure WhAt (H:Hp) (wh fa mk:Addr) (few root:Nat) (marks:List Nat):Prop where
  w:H wh=some (.tup [.ref fa,Vn few,Vn root,.ref mk])
  k:H mk=some (.tup (marks.map Vn))
theorem WhAt.same {H H':Hp} {wh fa mk:Addr} {few root:Nat} {marks:List Nat} (h:WhAt H wh fa mk few root marks) (s:Same H H'):WhAt H' wh fa mk few root marks:=⟨s _ _ h.w,s _ _ h.k⟩
theorem WhAt.x {pu g:Addr} {H H':Hp} {wh fa mk:Addr} {few root:Nat} {marks:List Nat} (h:WhAt H wh fa mk few root marks) (n1:wh≠pu∧wh≠g) (n2:mk≠pu∧mk≠g) (s:yan pu g H H'):WhAt H' wh fa mk few root marks:=⟨s _ _ n1.1 n1.2 h.w,s _ _ n2.1 n2.2 h.k⟩
def ybw (p m t:Nat) (H:Hp) (a:Addr):Prop:=∃n x:Nat,H a=some (.tup [Vn n,Vn x])∧Ord p m t x n∧n≤p^m-1∧0<x∧x<p^m
theorem ybw.same {p m t:Nat} {H H':Hp} {a:Addr} (h:ybw p m t H a) (s:Same H H'):ybw p m t H' a:=by obtain ⟨n,x,h1,r⟩:=h;exact ⟨n,x,s _ _ h1,r⟩
theorem Pu.tup_ne {H:Hp} {pu g a:Addr} {xs:List V} (h:Pu H pu g) (e:H a=some (.tup xs)):a≠pu∧a≠g:=by
  obtain ⟨ns,s,t,h1,h2⟩:=h
  exact ⟨fun q=>(by rw [q,h1] at e;cases e),fun q=>(by rw [q,h2] at e;cases e)⟩
def pn (H:Hp) (a:Addr):Nat:=match H a with
  | some (.tup (.int n::_))=>n.toNat
  | _=>0
theorem zck {H:Hp} {a:Addr} {n x:Nat} (h:H a=some (.tup [Vn n,Vn x])):pn H a=n:=by unfold pn;rw [h];rfl
theorem ya4 {α:Type} {xs:List α} {k:Nat} {a:α} (h:xs[k]?=some a):xs.take (k+1)=xs.take k++[a]:=by
  obtain ⟨hk,e⟩:=List.getElem?_eq_some_iff.mp h
  rw [List.take_succ_eq_append_getElem hk,e]
theorem zcR {ts:List Addr} {k:Nat} {z:V} (h:(ts.map V.ref)[k]?=some z):∃a,ts[k]?=some a∧z = .ref a:=by
  rw [List.getElem?_map] at h
  rcases e:ts[k]? with _|a
  · rw [e] at h;cases h
  · rw [e] at h;exact ⟨a,rfl,(Option.some.inj h).symm⟩
def zdA:Sp:=fun vs H Q _=>∃(pu g:Addr) (most:Nat),vs=[.ref pu,Vn most]∧Pu H pu g∧1≤most∧
  ∀(r tb fa pa la wh mk:Addr) (p m t b few root n:Nat) (marks:List Nat) H',H' r=some (.tup [.ref tb,.ref wh])→Tab H' tb fa pa la p m t b→yeQ pu g tb fa pa la→WhAt H' wh fa mk few root marks→(wh≠pu∧wh≠g)→(mk≠pu∧mk≠g)→(r≠pu∧r≠g)→Whl p m t few root n marks→n≤most→Pu H' pu g→yan pu g H H'→Q (.ref r) H'
theorem yak:yaj ["_law_purse_here","_law_most","_law_way","_law_far","_law_table_here","_law_fews","_law_few","_law_q","_law_rounds","_law_greatest","_law_n","_law_root","_law_marks","_law_first","_law_many","_law_k"] ["_law_purse_here","_law_most"] (zad zaw):=⟨rfl,rfl,rfl,by decide +kernel,rfl,by decide +kernel,by decide +kernel⟩
theorem yeT (B:Bl mg) (h__law_pick:Has P w K mg base 1 "_law_pick" ["_law_purse_here","_law_many"] zbN) (h__law_field:Has P w K mg base 4 "_law_field" ["_law_purse_here"] yer) (h__law_table:Has P w K mg base 3 "_law_table" ["_law_field_here"] yey) (h__law_raised:Has P w K mg base 1 "_law_raised" ["_law_one","_law_many"] zap)
    (h__law_round:Has P w K mg base 2 "_law_round" ["_law_table_here","_law_one"] ycL) (h__law_ring:Has P w K mg base 1 "_law_ring" ["_law_i","_law_n","_law_q"] ycu) (F:Fun K "_law_wheel" "_law_wheel" zaw f fd):FnOk P w K mg base CX0 5 f fd ["_law_purse_here","_law_most"] zdA:=by
  refine F.ok yak (fun vs H Q E h=>?_) (fun cdv A outer s H vs Q E hr h=>?_)
  · obtain ⟨pu,g,most,rfl,_⟩:=h;rfl
  obtain ⟨pu,g,most,rfl,hP,hmost,q⟩:=h
  refine ⟨_,(yab (@ybB _ _ 2 3 _ _ _ _ _ _ _ _ _ _ _ rfl yak.nd rfl rfl (by decide) rfl rfl (zaa (yad h__law_pick hr (by decide) rfl (zaa (pv 0) (zaa yac yaa (by rfl)) (by rfl)) (by decide) (by rfl) (by rfl)) (zaa (yad h__law_pick hr (by decide) rfl (zaa (pv 0) (zaa yac yaa (by rfl)) (by rfl)) (by decide) (by rfl) (by rfl)) yaa (by rfl)) (by rfl)) rfl (by rfl)) (yab (@zag _ _ 4 _ _ _ _ yak.nd rfl (Or.inr rfl) (yad h__law_table hr (by decide) rfl (zaa (yad h__law_field hr (by decide) rfl (zaa (pv 0) yaa (by rfl)) (by decide) (by rfl) (by rfl)) yaa (by rfl)) (by decide) (by rfl) (by rfl)) (by rfl) (by trivial)) (yab (@zbA _ 5 _ _ _ _ _ _ _ _ _ ["_law_few"] ["_law_table_here"] [4] _ _ _ _ yak.nd rfl (Or.inl rfl) (id (α:=CSc ["_law_purse_here","_law_most","_law_way","_law_far","_law_table_here","_law_fews","_law_few","_law_q","_law_rounds","_law_greatest","_law_n","_law_root","_law_marks","_law_first","_law_many","_law_k"] (zad zaw) ["_law_few"] ["_law_table_here"] [4] _) ⟨by rfl,by decide +kernel,by decide +kernel,by decide +kernel,by decide +kernel,by rfl,by decide +kernel⟩) rfl (@ybP _ _ _ _ _ _ _ rfl (B "range" (by decide)) (zaa yac (zaa (yaf yar (@yaz _ _ _ _ _ _ (zbn hr) (pv 4) yaF (fun _ _=>rfl)) yac) yaa (by rfl)) (by rfl)) (by rfl) (by rfl)) (fun cl C fp s H=>(@yae _ _ 0 _ (by show List.Nodup (["_law_few","_law_table_here"]:List Str);decide +kernel) rfl (Or.inl rfl) (by trivial))) (fun _ _ _ _ _=>(@ybd _ _ _ (@zai _ _ _ _ _ _ _ _ zbr (yaf zaz (@yaz _ _ _ _ _ _ (zbn hr) (pv 1) yaF (fun _ _=>rfl)) (pv 0)) yac (yal _)))) (fun _ _ _ _ _=>(pv 0)) (by rfl) (by intro _;rfl) (by trivial)) (yab (@zag _ _ 6 _ _ _ _ yak.nd rfl (Or.inl rfl) (zan zaq (pv 5) (yad h__law_pick hr (by decide) rfl (zaa (pv 0) (zaa (zak yah rfl (B "len" (by decide)) PySem.boot_len (zaa (pv 5) yaa (by rfl)) (by decide) (by decide) (by rfl) (by rfl)) yaa (by rfl)) (by rfl)) (by decide) (by rfl) (by rfl)) (fun _ _=>rfl)) (by rfl) (by trivial)) (yab (@zag _ _ 7 _ _ _ _ yak.nd rfl (Or.inl rfl) (yad h__law_raised hr (by decide) rfl (zaa (@yaz _ _ _ _ _ _ (zbn hr) (pv 4) yaF (fun _ _=>rfl)) (zaa (pv 6) yaa (by rfl)) (by rfl)) (by decide) (by rfl) (by rfl)) (by rfl) (by trivial)) (yab (@zbA _ 8 _ _ _ _ _ _ _ _ _ ["_law_one"] ["_law_table_here"] [4] _ _ _ _ yak.nd rfl (Or.inl rfl) (id (α:=CSc ["_law_purse_here","_law_most","_law_way","_law_far","_law_table_here","_law_fews","_law_few","_law_q","_law_rounds","_law_greatest","_law_n","_law_root","_law_marks","_law_first","_law_many","_law_k"] (zad zaw) ["_law_one"] ["_law_table_here"] [4] _) ⟨by rfl,by decide +kernel,by decide +kernel,by decide +kernel,by decide +kernel,by rfl,by decide +kernel⟩) rfl (@ybP _ _ _ _ _ _ _ rfl (B "range" (by decide)) (zaa yac (zaa (@yaz _ _ _ _ _ _ (zbn hr) (pv 4) yaF (fun _ _=>rfl)) yaa (by rfl)) (by rfl)) (by rfl) (by rfl)) (fun cl C fp s H=>(@yae _ _ 0 _ (by show List.Nodup (["_law_one","_law_table_here"]:List Str);decide +kernel) rfl (Or.inl rfl) (by trivial))) (fun _ _ _ _ _=>yaL) (fun _ _ _ _ _=>(@zaR _ _ _ _ _ (zaa (yad h__law_round hr (by decide) rfl (zaa (pv 1) (zaa (pv 0) yaa (by rfl)) (by rfl)) (by decide) (by rfl) (by rfl)) (zaa (pv 0) yaa (by rfl)) (by rfl)))) (by rfl) (by intro _;rfl) (by trivial)) (yab (@zbA _ 8 _ _ _ _ _ _ _ _ _ ["_law_pair"] ["_law_most"] [1] _ _ _ _ yak.nd rfl (Or.inl rfl) (id (α:=CSc ["_law_purse_here","_law_most","_law_way","_law_far","_law_table_here","_law_fews","_law_few","_law_q","_law_rounds","_law_greatest","_law_n","_law_root","_law_marks","_law_first","_law_many","_law_k"] (zad zaw) ["_law_pair"] ["_law_most"] [1] _) ⟨by rfl,by decide +kernel,by decide +kernel,by decide +kernel,by decide +kernel,by rfl,by decide +kernel⟩) rfl (@ya7 _ _ _ _ (pv 8)) (fun cl C fp s H=>(@yae _ _ 0 _ (by show List.Nodup (["_law_pair","_law_most"]:List Str);decide +kernel) rfl (Or.inl rfl) (by trivial))) (fun _ _ _ _ _=>(@ybd _ _ _ (@zai _ _ _ _ _ _ _ _ zgD (zan (ybg (K:=K) rfl) (pv 0) yac (fun _ _=>rfl)) (pv 1) (yal _)))) (fun _ _ _ _ _=>(pv 0)) (by rfl) (by intro _;rfl) (by trivial)) (yab (@zag _ _ 9 _ _ _ _ yak.nd rfl (Or.inr rfl) (zak (zdL rfl) rfl (B "max" (by decide)) ycB (zaa (@yaM _ _ _ _ _ _ _ ["_law_pair"] [] [] _ _ _ _ (id (α:=CSc ["_law_purse_here","_law_most","_law_way","_law_far","_law_table_here","_law_fews","_law_few","_law_q","_law_rounds","_law_greatest","_law_n","_law_root","_law_marks","_law_first","_law_many","_law_k"] (zad zaw) ["_law_pair"] [] [] _) ⟨by rfl,by decide +kernel,by decide +kernel,by decide +kernel,by decide +kernel,by rfl,by decide +kernel⟩) rfl (@ya7 _ _ _ _ (pv 8)) (fun cl C fp s H=>(@yae _ _ 0 _ (by show List.Nodup (["_law_pair"]:List Str);decide +kernel) rfl (Or.inl rfl) (by trivial))) (fun _ _ _ _ _=>yaL) (fun _ _ _ _ _=>(zan (ybg (K:=K) rfl) (pv 0) yac (fun _ _=>rfl))) (by intro _;rfl)) yaa (by rfl)) (by decide) (by decide) (by rfl) (by rfl)) (by rfl) (by trivial)) (yab (@yba _ _ _ _ _ _ _ _ (@zai _ _ _ _ _ _ _ _ ycb (pv 3) yac (yal _)) (zae (@zbA _ 8 _ _ _ _ _ _ _ _ _ ["_law_pair"] ["_law_greatest"] [9] _ _ _ _ yak.nd rfl (Or.inl rfl) (id (α:=CSc ["_law_purse_here","_law_most","_law_way","_law_far","_law_table_here","_law_fews","_law_few","_law_q","_law_rounds","_law_greatest","_law_n","_law_root","_law_marks","_law_first","_law_many","_law_k"] (zad zaw) ["_law_pair"] ["_law_greatest"] [9] _) ⟨by rfl,by decide +kernel,by decide +kernel,by decide +kernel,by decide +kernel,by rfl,by decide +kernel⟩) rfl (@ya7 _ _ _ _ (pv 8)) (fun cl C fp s H=>(@yae _ _ 0 _ (by show List.Nodup (["_law_pair","_law_greatest"]:List Str);decide +kernel) rfl (Or.inl rfl) (by trivial))) (fun _ _ _ _ _=>(@ybd _ _ _ (@zai _ _ _ _ _ _ _ _ zbr (zan (ybg (K:=K) rfl) (pv 0) yac (fun _ _=>rfl)) (pv 1) (yal _)))) (fun _ _ _ _ _=>(pv 0)) (by rfl) (by intro _;rfl) (by trivial))) zax) (yab (@za6 _ _ _ _ _ _ (zan zaq (pv 8) (yad h__law_pick hr (by decide) rfl (zaa (pv 0) (zaa (zak yah rfl (B "len" (by decide)) PySem.boot_len (zaa (pv 8) yaa (by rfl)) (by decide) (by decide) (by rfl) (by rfl)) yaa (by rfl)) (by rfl)) (by decide) (by rfl) (by rfl)) (fun _ _=>rfl)) (@ya8 _ _ _ _ _ _ rfl (zah (@yae _ _ 10 _ yak.nd rfl (Or.inl rfl) (by trivial)) (zah (@yae _ _ 11 _ yak.nd rfl (Or.inl rfl) (by trivial)) yaH (by rfl)) (by rfl)) (by rfl) (by rfl)) (by rfl) (by rfl) (by rfl)) (yab (@zag _ _ 12 _ _ _ _ yak.nd rfl (Or.inl rfl) (@zaE _ _ _ _ yaa) (by rfl) (by trivial)) (yab (@yba _ _ _ _ _ _ _ _ (@zai _ _ _ _ _ _ _ _ zbr (pv 2) yac (yal _)) (zae (@zag _ _ 12 _ _ _ _ yak.nd rfl (Or.inl rfl) (yaq (zbK rfl) rfl (B "list" (by decide)) zaP (zaa (@ycQ _ _ _ _ _ rfl (B "range" (by decide)) (zaa (pv 10) yaa (by rfl)) (by rfl)) yaa (by rfl)) (by decide) (by decide) (by rfl) (by rfl)) (by rfl) (by trivial))) (zae (@yba _ _ _ _ _ _ _ _ (@zai _ _ _ _ _ _ _ _ zbr (pv 2) yac (yal _)) (zae (@zag _ _ 12 _ _ _ _ yak.nd rfl (Or.inl rfl) (yad h__law_ring hr (by decide) rfl (zaa (yad h__law_pick hr (by decide) rfl (zaa (pv 0) (zaa (pv 10) yaa (by rfl)) (by rfl)) (by decide) (by rfl) (by rfl)) (zaa (pv 10) (zaa (pv 7) yaa (by rfl)) (by rfl)) (by rfl)) (by decide) (by rfl) (by rfl)) (by rfl) (by trivial))) (zae (@yba _ _ _ _ _ _ _ _ (@zai _ _ _ _ _ _ _ _ ycb (pv 2) yac (yal _)) (yab (@ybB _ _ 13 14 _ _ _ _ _ _ _ _ _ _ _ rfl yak.nd rfl rfl (by decide) rfl rfl (zaa (yad h__law_pick hr (by decide) rfl (zaa (pv 0) (zaa (pv 10) yaa (by rfl)) (by rfl)) (by decide) (by rfl) (by rfl)) (zaa (yad h__law_pick hr (by decide) rfl (zaa (pv 0) (zaa (pv 10) yaa (by rfl)) (by rfl)) (by decide) (by rfl) (by rfl)) yaa (by rfl)) (by rfl)) rfl (by rfl)) (zae (@yaD _ _ _ _ _ _ _ _ PassesOwn.never rfl (@yau _ _ _ _ _ _ rfl (B "range" (by decide)) (zaa (pv 14) yaa (by rfl)) (by rfl)) (@yae _ _ 15 _ yak.nd rfl (Or.inl rfl) (by trivial)) (zae (@yba _ _ _ _ _ _ _ _ (@PW.pt _ _ _ (@yd4 _ _ _ _ _ _ _ (@zai _ _ _ _ _ _ _ _ ycb (pv 2) yac (yal _)) (@zcJ _ _ _ _ (@zai _ _ _ _ _ _ _ _ zbr (yad h__law_pick hr (by decide) rfl (zaa (pv 0) (zaa yac yaa (by rfl)) (by rfl)) (by decide) (by rfl) (by rfl)) yac (yal _))))) (zae (@zag _ _ 12 _ _ _ _ yak.nd rfl (Or.inl rfl) (yaf zcB (pv 12) (yad h__law_ring hr (by decide) rfl (zaa (yaf yar (pv 13) (pv 15)) (zaa (pv 10) (zaa (pv 7) yaa (by rfl)) (by rfl)) (by rfl)) (by decide) (by rfl) (by rfl))) (by rfl) (by trivial))) zax)) (by intro _;rfl)))) zax))))) (zae (@zal _ _ _ _ (@zaR _ _ _ _ _ (zaa (pv 4) (zaa (@zaR _ _ _ _ _ (zaa (@yaz _ _ _ _ _ _ (zbn hr) (pv 4) yaF (fun _ _=>rfl)) (zaa (pv 6) (zaa (pv 11) (zaa (yaq zaI rfl (B "tuple" (by decide)) yaA (zaa (@zdd _ _ _ _ _ _ _ rfl rfl (B "sorted" (by decide)) rfl (B "set" (by decide)) (pv 12) (by rfl) (by rfl)) yaa (by rfl)) (by decide) (by decide) (by rfl) (by rfl)) yaa (by rfl)) (by rfl)) (by rfl)) (by rfl))) yaa (by rfl)) (by rfl))))))))))))))))),?_⟩
  refine ⟨_,rfl,pu,g,6,rfl,hP,by omega,by omega,fun way H1 hway hP1 sx1=>?_⟩
  refine ⟨_,rfl,pu,g,3,rfl,hP1,by omega,by omega,fun far H2 hfar hP2 sx2=>?_⟩
  refine ⟨_,_,rfl,?_⟩
  refine ⟨_,rfl,pu,g,rfl,hP2,fun fa p m t H3 nf1 nf2 nf ef G hP3 sx3=>?_⟩
  refine ⟨fa,p,m,t,rfl,ef,G,fun tb pa la b H4 ntb npa nla T4 s4=>?_⟩
  have hP4:=hP3.same s4
  have ap:yeQ pu g tb fa pa la:=⟨(hP3.lt ntb).1,(hP3.lt ntb).2,nf1,nf2,(hP3.lt npa).1,(hP3.lt npa).2,(hP3.lt nla).1,(hP3.lt nla).2⟩
  have sx4:=(sx1.trans (sx2.trans sx3)).trans (Same.x s4)
  have hp:=G.hp
  have hm:=G.hm
  have hQ:=G.hq
  have hQ2:=zaM hp hm
  have hm6:=m_le hp hQ
  refine ⟨_,rfl,tb,_,rfl,T4.get zhg,_,_,rfl,rfl,?_⟩
  refine ⟨1,((m+1:Nat):Int),rfl,by omega,?_⟩
  refine zar zaK (fun k acc H'=>H'=H4∧∃fs:List Nat,acc=fs.map Vn∧(∀f∈fs,1≤f∧m%f=0)∧fs.length≤k∧(0<k→0<fs.length)) ⟨rfl,([]:List Nat),rfl,fun f hf=>absurd hf (by simp),Nat.le_refl _,fun h=>absurd h (Nat.lt_irrefl _)⟩ (fun _ _ _ _ _=>trivial) ?_ ?_ ?_
  · rintro k acc H' hk ⟨_,fs,rfl,_,hl,_⟩
    rw [List.length_map];exact zam (by omega)
  · rintro k acc x H' H'' hk ⟨rfl,fs,rfl,hfs,hl,h0⟩ ⟨rfl,rfl⟩
    refine ⟨_,rfl,tb,_,rfl,T4.get zhg,_,rfl,_,_,rfl,rfl,by show (0:Int)<1+(k:Int);omega,rfl,_,rfl,?_⟩
    have ed:decide (V.int ((m:Int)%(1+(k:Int)))=V.int 0)=decide (m%(1+k)=0):=by rw [show (1+(k:Int))=((1+k:Nat):Int) by omega];exact yf9 _ _
    refine ite2 (fun c=>?_) (fun c=>?_)
    · have c1:m%(1+k)=0:=by rw [ed] at c;exact of_decide_eq_true c
      refine ⟨_,rfl,rfl,fs++[1+k],?_,?_,by simp;omega,fun _=>by simp⟩
      · rw [List.map_append,show V.int (1+(k:Int))=Vn (1+k) from ybN (by omega)];rfl
      · intro f hf
        rcases List.mem_append.mp hf with h|h
        · exact hfs f h
        · cases List.mem_singleton.mp h;exact ⟨by omega,c1⟩
    · refine ⟨rfl,fs,rfl,hfs,by omega,fun _=>?_⟩
      by_cases c0:k=0
      · subst c0
        refine absurd ?_ c
        rw [ed,decide_eq_true (by show m%1=0;exact Nat.mod_one m)]
      · exact h0 (by omega)
  rintro acc H5 ⟨rfl,fs,rfl,hfs,hfl,hf0⟩ fl hfl'
  have hfl2:fs.length≤m:=by omega
  have hf1:0<fs.length:=hf0 (by omega)
  have s5:=zac hfl' (.lst (fs.map Vn))
  have T5:=T4.same s5
  have hP5:=hP4.same s5
  have nfl:=hP4.lt hfl'
  have e5:upd H5 fl (.lst (fs.map Vn)) fl=some (.lst (fs.map Vn)):=zab
  have sx5:=sx4.trans (Same.x s5)
  dsimp only [zau]
  generalize upd H5 fl (.lst (fs.map Vn))=H5' at s5 T5 hP5 e5 sx5 ⊢
  refine ⟨_,rfl,_,rfl,_,rfl,fl,_,rfl,.inl (SqL.of e5),?_⟩
  refine ⟨pu,g,fs.length,by rw [List.length_map];rfl,hP5,hf1,by omega,fun fi H6 hfi hP6 sx6=>?_⟩
  have hfew:=hfs (fs.getD fi 0) (by
    have:=List.getElem_mem hfi
    rwa [show fs.getD fi 0=fs[fi] by simp [List.getD,hfi]])
  have e6:=sx6 _ _ nfl.1 nfl.2 e5
  have sx6':=sx5.trans sx6
  refine ⟨fl,_,_,Vn (fs.getD fi 0),rfl,rfl,SqL.of e6,yaw (zat hfi),?_⟩
  generalize fs.getD fi 0=few at hfew ⊢
  have hfewm:few≤m:=Nat.le_of_dvd (by omega) (Nat.dvd_of_mod_eq_zero hfew.2)
  have T6:=T5.x ap sx6
  dsimp only [zau]
  refine ⟨_,rfl,tb,_,rfl,T6.get yfe,_,rfl,p,few,rfl,p_le hp hm hQ,by omega,?_⟩
  have hqq:p^few≤64:=Nat.le_trans (Nat.pow_le_pow_right (by omega) hfewm) hQ
  dsimp only [zau]
  refine ⟨_,rfl,tb,_,rfl,T6.get zb0,?_⟩
  refine ⟨1,((p^m:Nat):Int),rfl,by omega,?_⟩
  refine zar zaK (fun k acc H'=>Same H6 H'∧∃ts:List Addr,acc=ts.map V.ref∧ts.length=k∧(∀a∈ts,ybw p m t H' a)∧(0<k→∃a∈ts,pn H' a=1)) ⟨Same.refl _,([]:List Addr),rfl,rfl,fun a ha=>absurd ha (by simp),fun h=>absurd h (Nat.lt_irrefl _)⟩ (fun _ _ _ _ _=>trivial) ?_ ?_ ?_
  · rintro k acc H' hk ⟨_,ts,rfl,hl,_⟩
    rw [List.length_map,hl];exact zam (by omega)
  · rintro k acc x H' H'' hk ⟨s',ts,rfl,hl,hts,h1⟩ ⟨rfl,rfl⟩
    have hk2:1+k<p^m:=by omega
    refine ⟨_,rfl,_,rfl,tb,fa,pa,la,p,m,t,b,1+k,?_,T6.same s',by omega,hk2,fun n o hn=>?_⟩
    · rw [show (1+(k:Int))=((1+k:Nat):Int) by omega];rfl
    refine ⟨_,rfl,szl 2,fun a ha=>?_⟩
    have sn:=zac ha (.tup [Vn n,.int (1+(k:Int))])
    have en:upd H'' a (.tup [Vn n,.int (1+(k:Int))]) a=some (.tup [Vn n,Vn (1+k)]):=by rw [zab];congr 1
    refine ⟨s'.trans sn,ts++[a],by rw [List.map_append];rfl,by simp [hl],?_,?_⟩
    · intro a' ha'
      rcases List.mem_append.mp ha' with h|h
      · exact (hts a' h).same sn
      · cases List.mem_singleton.mp h
        exact ⟨n,1+k,en,o,hn,by omega,hk2⟩
    · intro _
      by_cases c0:k=0
      · subst c0
        refine ⟨a,by simp,?_⟩
        rw [zck en]
        have h2:=o.pos
        have h3:=o.le (k:=1) (by omega) (by rw [yb9 hp hm (by omega)])
        omega
      · obtain ⟨a',ha',e'⟩:=h1 (by omega)
        obtain ⟨n',x',hx',_⟩:=hts a' ha'
        exact ⟨a',List.mem_append_left _ ha',by rw [zck (sn _ _ hx'),←zck hx'];exact e'⟩
  rintro acc H7 ⟨s7,ts,rfl,htl,hts,hone⟩ rl hrl
  have htl2:ts.length=p^m-1:=by
    rw [htl,show ((p^m:Nat):Int)-1=((p^m-1:Nat):Int) by omega];rfl
  obtain ⟨a1,ha1,ea1⟩:=hone (by omega)
  have s7':=s7.trans (zac hrl (.lst (ts.map V.ref)))
  have T7:=T6.same s7'
  have hP7:=hP6.same s7'
  have nrl:=(hP6.same s7).lt hrl
  have e7:upd H7 rl (.lst (ts.map V.ref)) rl=some (.lst (ts.map V.ref)):=zab
  have hts7:∀a∈ts,ybw p m t (upd H7 rl (.lst (ts.map V.ref))) a:=fun a ha=>(hts a ha).same (zac hrl _)
  have ea7:pn (upd H7 rl (.lst (ts.map V.ref))) a1=1:=by
    obtain ⟨n',x',hx',_⟩:=hts a1 ha1
    rw [zck (zac hrl _ _ _ hx'),←zck hx'];exact ea1
  have sx7:=sx6'.trans (Same.x s7')
  dsimp only [zau]
  generalize upd H7 rl (.lst (ts.map V.ref))=H8 at s7' T7 hP7 e7 hts7 ea7 sx7 ⊢
  refine ⟨_,rfl,rl,rfl,⟨_,SqL.of e7⟩,?_⟩
  refine zar (yaR (xs:=ts.map V.ref)) (fun k acc H'=>H'=H8∧acc=((ts.take k).filter fun a=>decide (pn H8 a≤most)).map V.ref) ⟨rfl,rfl⟩ (fun i acc H' _ h=>h.1 ▸ SqL.of e7) ?_ ?_ ?_
  · rintro k acc H' hk ⟨_,rfl⟩
    have:=List.length_filter_le (fun a=>decide (pn H8 a≤most)) (ts.take k)
    rw [List.length_take] at this
    rw [List.length_map];exact zam (by omega)
  · rintro k acc z H' H'' hk ⟨rfl,rfl⟩ ⟨rfl,ez⟩
    obtain ⟨a,ea,rfl⟩:=zcR ez
    obtain ⟨n,x,hx,_⟩:=hts7 a (List.mem_of_getElem? ea)
    refine ⟨_,rfl,a,_,_,Vn n,rfl,rfl,SqT.of hx,rfl,_,rfl,_,_,rfl,rfl,_,rfl,?_⟩
    rw [ya4 ea,List.filter_append]
    refine ite2 (fun c=>?_) (fun c=>?_)
    · have c1:n≤most:=by have:=of_decide_eq_true c;omega
      refine ⟨_,rfl,rfl,?_⟩
      rw [List.map_append]
      simp [zck hx,c1]
    · have c1:¬ n≤most:=fun h=>c (decide_eq_true (by omega))
      refine ⟨rfl,?_⟩
      simp [zck hx,c1]
  rw [List.length_map]
  rintro acc H9 ⟨rfl,rfl⟩ r2 hr2
  rw [List.take_length]
  obtain ⟨us,hus⟩:∃us,us=ts.filter fun a=>decide (pn H9 a≤most):=⟨_,rfl⟩
  rw [←hus]
  have hu1:∀a∈us,ybw p m t H9 a∧pn H9 a≤most:=fun a ha=>by
    rw [hus] at ha
    have:=List.mem_filter.mp ha
    exact ⟨hts7 a this.1,of_decide_eq_true this.2⟩
  have hu0:a1∈us:=by rw [hus];exact List.mem_filter.mpr ⟨ha1,decide_eq_true (by rw [ea7];exact hmost)⟩
  have hul:us.length≤63:=by
    have:=List.length_filter_le (fun a=>decide (pn H9 a≤most)) ts
    rw [←hus] at this
    omega
  clear hus
  have pk:∀ {H H':Hp},Same H H'→∀a,ybw p m t H a→pn H' a=pn H a:=fun s a ⟨n,x,h,_⟩=>by rw [zck (s _ _ h),zck h]
  have s9:=zac hr2 (.lst (us.map V.ref))
  have T9:=T7.same s9
  have hP9:=hP7.same s9
  have n2:=hP7.lt hr2
  have e9:upd H9 r2 (.lst (us.map V.ref)) r2=some (.lst (us.map V.ref)):=zab
  have hu9:∀a∈us,ybw p m t (upd H9 r2 (.lst (us.map V.ref))) a∧pn (upd H9 r2 (.lst (us.map V.ref))) a≤most:=fun a ha=>⟨(hu1 a ha).1.same s9,by rw [pk s9 a (hu1 a ha).1];exact (hu1 a ha).2⟩
  have sx9:=sx7.trans (Same.x s9)
  dsimp only [zau]
  generalize upd H9 r2 (.lst (us.map V.ref))=HA at s9 T9 hP9 e9 hu9 sx9 ⊢
  refine ⟨_,rfl,r2,rfl,⟨_,SqL.of e9⟩,?_⟩
  refine zar (yaR (xs:=us.map V.ref)) (fun k acc H'=>H'=HA∧acc=((us.take k).map (pn HA)).map Vn) ⟨rfl,rfl⟩ (fun i acc H' _ h=>h.1 ▸ SqL.of e9) ?_ ?_ ?_
  · rintro k acc H' hk ⟨_,rfl⟩
    rw [List.length_map,List.length_map,List.length_take];exact zam (by omega)
  · rintro k acc z H' H'' hk ⟨rfl,rfl⟩ ⟨rfl,ez⟩
    obtain ⟨a,ea,rfl⟩:=zcR ez
    obtain ⟨⟨n,x,hx,_⟩,_⟩:=hu9 a (List.mem_of_getElem? ea)
    refine ⟨_,rfl,a,_,_,Vn n,rfl,rfl,SqT.of hx,rfl,rfl,?_⟩
    rw [ya4 ea,List.map_append,List.map_append,show [a].map (pn H'')=[n] by rw [List.map_singleton,zck hx]];rfl
  rw [List.length_map]
  rintro acc HB ⟨rfl,rfl⟩ gl' hgl'
  rw [List.take_length]
  refine ⟨gl',(us.map (pn HB)).map (fun n:Nat=>(n:Int)),rfl,SqL.of (by rw [mapI];exact zab),by rw [List.length_map,List.length_map];exact List.length_pos_of_mem hu0,fun M hM1 hM2=>?_⟩
  obtain ⟨M,hM,rfl⟩:=List.mem_map.mp hM1
  obtain ⟨aM,haM,eM⟩:=List.mem_map.mp hM
  have sB:=zac hgl' (.lst ((us.map (pn HB)).map Vn))
  have TB:=T9.same sB
  have hPB:=hP9.same sB
  have eB:=sB _ _ e9
  have huB:∀a∈us,ybw p m t (upd HB gl' (.lst ((us.map (pn HB)).map Vn))) a∧pn (upd HB gl' (.lst ((us.map (pn HB)).map Vn))) a≤most:=fun a ha=>⟨(hu9 a ha).1.same sB,by rw [pk sB a (hu9 a ha).1];exact (hu9 a ha).2⟩
  have eMB:pn (upd HB gl' (.lst ((us.map (pn HB)).map Vn))) aM=M:=by rw [pk sB aM (hu9 aM haM).1];exact eM
  have sxB:=sx9.trans (Same.x sB)
  dsimp only [zau]
  generalize upd HB gl' (.lst ((us.map (pn HB)).map Vn))=HC at sB TB hPB eB huB eMB sxB ⊢
  change tSeq (tIfS _ _ _) _ _ _ _
  refine ybh (fun σ H'=>∃(rr:Addr) (ws:List Addr),Same HC H'∧H' rr=some (.lst (ws.map V.ref))∧(rr≠pu∧rr≠g)∧0<ws.length∧ws.length≤63∧(∀a∈ws,ybw p m t H' a∧pn H' a≤most)∧
    σ=[some (.ref pu),some (Vn most),some (Vn way),some (Vn far),some (.ref tb),some (.ref fl),some (Vn few),some (Vn (p^few)),some (.ref rr),some (Vn M),none,none,none,none,none,none]) ?_ ?_
  · rintro σ HE ⟨rr,ws,sE,eE,nrr,hw0,hw1,hws,rfl⟩
    have TE:=TB.same sE
    have hPE:=hPB.same sE
    have sxE:=sxB.trans (Same.x sE)
    refine ⟨_,rfl,_,rfl,_,rfl,rr,_,rfl,.inl (SqL.of eE),?_⟩
    refine ⟨pu,g,ws.length,by rw [List.length_map];rfl,hPE,hw0,by omega,fun wi HF hwi hPF sxF=>?_⟩
    have hwm:ws[wi]∈ws:=List.getElem_mem hwi
    obtain ⟨⟨n,root,hpr,ord,hnq,r0,rq⟩,hmo⟩:=hws _ hwm
    rw [zck hpr] at hmo
    have npr:=hPE.tup_ne hpr
    have hprF:=sxF _ _ npr.1 npr.2 hpr
    have eF:=sxF _ _ nrr.1 nrr.2 eE
    have TF:=TE.x ap sxF
    have sxF':=sxE.trans sxF
    have hn0:=ord.pos
    refine ⟨rr,_,_,.ref ws[wi],rfl,rfl,SqL.of eF,yaw (by rw [List.getElem?_map,List.getElem?_eq_getElem hwi];rfl),?_⟩
    refine ⟨ws[wi],_,rfl,SqT.of hprF,rfl,_,_,rfl,_,_,rfl,rfl,?_⟩
    refine ⟨szl 0,fun m0 hm0=>?_⟩
    have sG:=zac hm0 (.lst [])
    have hPG:=hPF.same sG
    have nm0:=hPF.lt hm0
    have eG:upd HF m0 (.lst []) m0=some (.lst (([]:List Nat).map Vn)):=zab
    have TG:=TF.same sG
    have sxG:=sxF'.trans (Same.x sG)
    dsimp only [zau]
    generalize upd HF m0 (.lst [])=HG at sG hPG eG TG sxG ⊢
    have hrnd:=Ord.round G r0 rq ord hfew.2 hfew.1
    have hme:1≤m/few:=Nat.div_pos hfewm hfew.1
    have hme2:m/few≤6:=Nat.le_trans (Nat.div_le_self _ _) hm6
    change tSeq (tIfS _ _ _) _ _ _ _
    refine ybh (fun σ H'=>Pu H' pu g∧yan pu g HG H'∧∃(ml:Addr) (ns:List Nat) (s13 s14 s15:Option V),H' ml=some (.lst (ns.map Vn))∧(ml≠pu∧ml≠g)∧ns.length≤400∧(∀x∈ns,x<n)∧(∀x∈ns,x*p^few%n∈ns)∧
      σ=[some (.ref pu),some (Vn most),some (Vn way),some (Vn far),some (.ref tb),some (.ref fl),some (Vn few),some (Vn (p^few)),some (.ref rr),some (Vn M),some (Vn n),some (Vn root),some (.ref ml),s13,s14,s15]) ?_ ?_
    · rintro σ HI ⟨hPI,sxI,ml,ns,s13,s14,s15,eI,nml,hnl,hnn,hnc,rfl⟩
      have TI:=TG.x ap sxI
      refine ⟨_,rfl,_,rfl,tb,_,rfl,TI.get zeU,_,rfl,_,rfl,_,rfl,ml,ns.map (fun n:Nat=>(n:Int)),rfl,SqL.of (by rw [mapI];exact eI),by rw [List.length_map];omega,?_,?_⟩
      · intro ks hks hsub
        have:=zcc (τ:=(List.range n).map fun i:Nat=>(i:Int)) hks fun k hk=>by
          obtain ⟨x,hx,rfl⟩:=List.mem_map.mp (hsub k hk)
          exact List.mem_map.mpr ⟨x,List.mem_range.mpr (hnn x hx),rfl⟩
        rw [List.length_map,List.length_range] at this
        omega
      · intro l2 ns' hl2 hasc hmem
        obtain ⟨marks,hmk⟩:∃marks:List Nat,ns'=marks.map fun x:Nat=>(x:Int):=by
          refine ⟨ns'.map Int.toNat,?_⟩
          rw [List.map_map]
          conv=>lhs;rw [←List.map_id ns']
          refine List.map_congr_left fun k hk=>?_
          obtain ⟨x,_,rfl⟩:=List.mem_map.mp ((hmem k).mp hk)
          rfl
        subst hmk
        have hmm:∀x:Nat,x∈marks↔x∈ns:=fun x=>by
          have:=hmem (x:Int)
          constructor
          · intro h
            obtain ⟨y,hy,e⟩:=List.mem_map.mp (this.mp (List.mem_map_of_mem h))
            rw [←Int.ofNat.inj e];exact hy
          · intro h
            obtain ⟨y,hy,e⟩:=List.mem_map.mp (this.mpr (List.mem_map_of_mem h))
            rw [←Int.ofNat.inj e];exact hy
        have hasc2:marks.Pairwise (· < ·):=by
          rw [List.pairwise_map] at hasc
          exact hasc.imp fun h=>by omega
        rw [mapI]
        have s2:=zac hl2 (.lst (marks.map Vn))
        refine ⟨l2,_,rfl,.inl ⟨SqL.of zab,fun mk hmk=>?_⟩⟩
        have s3:=zac hmk (.tup (marks.map Vn))
        refine ⟨szl 4,fun wh hwh=>?_⟩
        have s4':=zac hwh (.tup [.ref fa,Vn few,Vn root,.ref mk])
        refine ⟨szl 2,fun r hr=>?_⟩
        have s5':=zac hr (.tup [.ref tb,.ref wh])
        have hP2':=hPI.same s2
        have hP3':=hP2'.same s3
        have hP4':=hP3'.same s4'
        refine q r tb fa pa la wh mk p m t b few root n marks _ zab ((((TI.same s2).same s3).same s4').same s5') ap ⟨s5' _ _ zab,s5' _ _ (s4' _ _ zab)⟩ (hP3'.lt hwh) (hP2'.lt hmk) (hP4'.lt hr) ⟨hfew.1,hfew.2,r0,rq,ord,hnq,hasc2,fun x hx=>hnn x ((hmm x).mp hx),fun x hx=>(hmm _).mpr (hnc x ((hmm x).mp hx))⟩ hmo (hP4'.same s5') ?_
        exact (sxG.trans sxI).trans (Same.x (((s2.trans s3).trans s4').trans s5'))
    · intro D' _ _ _ hD'
      refine ⟨_,rfl,rfl,_,rfl,?_⟩
      refine ite2 (fun c=>?_) (fun c=>?_)
      · refine ⟨_,rfl,(n:Int),rfl,fun rg hrg=>⟨rg,0,(n:Int),rfl,zab,by omega,by rw [show ((n:Int)-0).toNat=n by omega];exact szl _ (by omega),fun l hl=>?_⟩⟩
        have s1':=zac hrg (.rng 0 (n:Int))
        have e1:L2.intsFrom 0 ((n:Int)-0).toNat=(List.range n).map Vn:=by
          rw [show ((n:Int)-0).toNat=n by omega]
          unfold L2.intsFrom
          refine List.map_congr_left fun i _=>?_
          rw [Int.zero_add]
        rw [e1]
        have s2':=zac hl (.lst ((List.range n).map Vn))
        exact hD' _ _ ⟨(hPG.same s1').same s2',Same.x (s1'.trans s2'),l,List.range n,_,_,_,zab,(hPG.same s1').lt hl,by rw [List.length_range];omega,fun x hx=>List.mem_range.mp hx,fun x _=>List.mem_range.mpr (Nat.mod_lt _ (by omega)),rfl⟩
      · refine ⟨_,rfl,rfl,_,rfl,?_⟩
        refine ite2 (fun c=>?_) (fun c=>?_)
        · refine ⟨_,rfl,_,rfl,pu,g,n,rfl,hPG,by omega,by omega,fun i HJ hi hPJ sxJ=>?_⟩
          refine ⟨_,rfl,_,rfl,i,n,p^few,m/few,rfl,by omega,by omega,hqq,hme,hme2,hrnd,fun r ns HK sK nr er h1 h2 h3 h4 _ _ _=>?_⟩
          exact hD' _ _ ⟨hPJ.same sK,sxJ.trans (Same.x sK),r,ns,_,_,_,er,hPJ.lt nr,by omega,h3,h4,rfl⟩
        · refine ⟨_,rfl,_,_,rfl,rfl,_,rfl,?_⟩
          refine ite2 (fun c=>?_) (fun c=>?_)
          · refine ⟨_,rfl,_,rfl,pu,g,n,rfl,hPG,by omega,by omega,fun first HJ hfi hPJ sxJ=>?_⟩
            refine ⟨_,rfl,_,rfl,pu,g,n,rfl,hPJ,by omega,by omega,fun many HK hma hPK sxK=>?_⟩
            refine ⟨_,_,rfl,?_⟩
            refine ⟨_,rfl,many,rfl,by omega,by omega,?_⟩
            have eK:=sxK _ _ nm0.1 nm0.2 (sxJ _ _ nm0.1 nm0.2 eG)
            refine yaI (n:=many) (fun k σ H'=>Pu H' pu g∧yan pu g HG H'∧∃(ml:Addr) (ns:List Nat) (s15:Option V),H' ml=some (.lst (ns.map Vn))∧(ml≠pu∧ml≠g)∧ns.length≤6*k∧(∀x∈ns,x<n)∧(∀x∈ns,x*p^few%n∈ns)∧
              σ=[some (.ref pu),some (Vn most),some (Vn way),some (Vn far),some (.ref tb),some (.ref fl),some (Vn few),some (Vn (p^few)),some (.ref rr),some (Vn M),some (Vn n),some (Vn root),some (.ref ml),some (Vn first),some (Vn many),s15])
              ⟨hPK,sxJ.trans sxK,m0,[],_,eK,nm0,by decide,fun x hx=>absurd hx (by simp),fun x hx=>absurd hx (by simp),rfl⟩ ?_ ?_
            · rintro k σ HL hk ⟨hPL,sxL,ml,ns,s15,eL,nml,hnl,hnn,hnc,rfl⟩
              have body:∀HM,Pu HM pu g→yan pu g HL HM→∀Q:V→Hp→Prop,(∀l (ns':List Nat) H',Pu H' pu g→yan pu g HG H'→H' l=some (.lst (ns'.map Vn))→(l≠pu∧l≠g)→ns'.length≤6*(k+1)→(∀x∈ns',x<n)→(∀x∈ns',x*p^few%n∈ns')→Q (.ref l) H')→
                  tOp rCat (tVar 12) (zgZ ycu [] E0 (ycX (tOp (rI0 fun i j=>V.int (i+j)) (tVar 13) (tVar 15)) (ycX (tVar 10) (ycX (tVar 7) tNil)))) [some (.ref pu),some (Vn most),some (Vn way),some (Vn far),some (.ref tb),some (.ref fl),some (Vn few),some (Vn (p^few)),some (.ref rr),some (Vn M),some (Vn n),some (Vn root),some (.ref ml),some (Vn first),some (Vn many),some (.int (0+(k:Int)))] HM Q:=by
                intro HM hPM sxM Q hQ
                have eM:=sxM _ _ nml.1 nml.2 eL
                refine ⟨_,rfl,_,rfl,_,rfl,_,_,rfl,rfl,_,rfl,_,rfl,first+k,n,p^few,m/few,?_,by omega,by omega,hqq,hme,hme2,hrnd,fun r rs HN sN nr er h1 h2 h3 h4 _ _ _=>?_⟩
                · show [V.int ((first:Int)+(0+(k:Int))),Vn n,Vn (p^few)]=[Vn (first+k),Vn n,Vn (p^few)]
                  rw [show (first:Int)+(0+(k:Int))=((first+k:Nat):Int) by omega]
                refine ⟨ml,r,_,_,rfl,rfl,sN _ _ eM,er,by rw [List.length_map,List.length_map];exact szl _ (by omega),fun l hl=>?_⟩
                rw [←List.map_append]
                have sO:=zac hl (.lst ((ns++rs).map Vn))
                refine hQ l (ns++rs) _ ((hPM.same sN).same sO) ((sxL.trans sxM).trans (Same.x (sN.trans sO))) zab ((hPM.same sN).lt hl) (by rw [List.length_append];omega) (fun x hx=>?_) (fun x hx=>?_)
                · rcases List.mem_append.mp hx with h|h
                  · exact hnn x h
                  · exact h3 x h
                · rcases List.mem_append.mp hx with h|h
                  · exact List.mem_append_left _ (hnc x h)
                  · exact List.mem_append_right _ (h4 x h)
              refine ⟨_,rfl,_,_,rfl,rfl,_,rfl,?_⟩
              refine ite2 (fun c=>?_) (fun c=>?_)
              · refine ite2 (fun _=>?_) (fun h=>absurd rfl h)
                exact body HL hPL yan.refl _ fun l ns' H' a1 a2 a3 a4 a5 a6 a7=>⟨a1,a2,l,ns',_,a3,a4,a5,a6,a7,rfl⟩
              · refine ⟨_,rfl,pu,g,3,rfl,hPL,by omega,by omega,fun v HM hv hPM sxM=>?_⟩
                refine ⟨rfl,_,rfl,?_⟩
                refine ite2 (fun _=>?_) (fun _=>?_)
                · exact body HM hPM sxM _ fun l ns' H' a1 a2 a3 a4 a5 a6 a7=>⟨a1,a2,l,ns',_,a3,a4,a5,a6,a7,rfl⟩
                · exact ⟨hPM,sxL.trans sxM,ml,ns,_,sxM _ _ nml.1 nml.2 eL,nml,by omega,hnn,hnc,rfl⟩
            · rintro σ HL ⟨hPL,sxL,ml,ns,s15,eL,nml,hnl,hnn,hnc,rfl⟩
              exact hD' _ _ ⟨hPL,sxL,ml,ns,_,_,_,eL,nml,by omega,hnn,hnc,rfl⟩
          · exact hD' _ _ ⟨hPG,yan.refl,m0,[],_,_,_,eG,nm0,by decide,fun x hx=>absurd hx (by simp),fun x hx=>absurd hx (by simp),rfl⟩
  · intro D' _ _ _ hD'
    refine ⟨_,rfl,_,_,rfl,rfl,_,rfl,?_⟩
    refine ite2 (fun c=>?_) (fun c=>?_)
    · refine ⟨_,rfl,r2,rfl,⟨_,SqL.of eB⟩,?_⟩
      refine zar (yaR (xs:=us.map V.ref)) (fun k acc H'=>H'=HC∧acc=((us.take k).filter fun a=>decide (pn HC a=M)).map V.ref) ⟨rfl,rfl⟩ (fun i acc H' _ h=>h.1 ▸ SqL.of eB) ?_ ?_ ?_
      · rintro k acc H' hk ⟨_,rfl⟩
        have:=List.length_filter_le (fun a=>decide (pn HC a=M)) (us.take k)
        rw [List.length_take] at this
        rw [List.length_map];exact zam (by omega)
      · rintro k acc z H' H'' hk ⟨rfl,rfl⟩ ⟨rfl,ez⟩
        obtain ⟨a,ea,rfl⟩:=zcR ez
        obtain ⟨⟨n,x,hx,_⟩,_⟩:=huB a (List.mem_of_getElem? ea)
        refine ⟨_,rfl,a,_,_,Vn n,rfl,rfl,SqT.of hx,rfl,_,rfl,rfl,_,rfl,?_⟩
        have ed:decide (Vn n=Vn M)=decide (n=M):=decide_eq_decide.mpr ⟨fun e=>Int.ofNat.inj (V.int.inj e),fun e=>by rw [e]⟩
        rw [ya4 ea,List.filter_append,ed]
        refine ite2 (fun c=>?_) (fun c=>?_)
        · have c1:n=M:=of_decide_eq_true c
          refine ⟨_,rfl,rfl,?_⟩
          rw [List.map_append]
          simp [zck hx,c1]
        · have c1:¬ n=M:=fun h=>c (decide_eq_true h)
          refine ⟨rfl,?_⟩
          simp [zck hx,c1]
      rw [List.length_map]
      rintro acc HD ⟨rfl,rfl⟩ r3 hr3
      rw [List.take_length]
      have s3:=zac hr3 (.lst ((us.filter fun a=>decide (pn HD a=M)).map V.ref))
      refine hD' _ _ ⟨r3,us.filter fun a=>decide (pn HD a=M),s3,zab,hPB.lt hr3,?_,?_,?_,rfl⟩
      · exact List.length_pos_of_mem (List.mem_filter.mpr ⟨haM,decide_eq_true eMB⟩)
      · exact Nat.le_trans (List.length_filter_le _ _) hul
      · intro a ha
        have h1:=huB a (List.mem_filter.mp ha).1
        exact ⟨h1.1.same s3,by rw [pk s3 a h1.1];exact h1.2⟩
    · exact hD' _ _ ⟨r2,us,Same.refl _,eB,n2,List.length_pos_of_mem hu0,hul,huB,rfl⟩
end
end My
end
section
-- text: PN
namespace L2
open PySem PyProof.Rows
theorem zgN {X:Cx}:OpR X (compareOp .IsNot) (fun x y H Q=>∃a b:Bool,x = .bl a∧y = .bl b∧Q (.bl (!(a==b))) H):=by
  intro pins s σ H x y v u Q I rx ry h
  obtain ⟨a,b,rfl,rfl,q⟩:=h
  cases rx;cases ry
  exact wpAny_pure ⟨.bl _,H,I,by cases a <;> cases b <;> rfl,q⟩
end L2
namespace My
open PySem L2 Dg
local macro_rules | `(tactic| walk_at "rd") => `(tactic| repeat (first | refine ⟨_, rfl, ?_⟩ | refine ⟨_, _, rfl, rfl, ?_⟩))
def Cand (n f s:Nat):Prop:=f<n∧1≤s∧s≤n∧Nat.gcd s n=1
section
variable {P:Program} {w:World} {K:PySem.W.Frag} {mg:Str→Option Value} {base:Heap} {f:Addr} {fd:FuncData}
def ygv:Sp:=fun vs H Q _=>∃a b:Nat,vs=[Vn a,Vn b]∧Q (Vn (Nat.gcd a b)) H
def ybG (n:Nat):List Nat:=((List.range n).map (·+1)).filter fun s=>decide (Nat.gcd s n=1)
theorem zdD {n s:Nat}:s∈ybG n↔1≤s∧s≤n∧Nat.gcd s n=1:=by
  unfold ybG
  rw [List.mem_filter,List.mem_map]
  constructor
  · rintro ⟨⟨i,hi,rfl⟩,h⟩
    have:=List.mem_range.mp hi
    exact ⟨by omega,by omega,of_decide_eq_true h⟩
  · rintro ⟨h1,h2,h3⟩
    exact ⟨⟨s-1,List.mem_range.mpr (by omega),by omega⟩,decide_eq_true h3⟩
theorem zfa (n:Nat):(ybG n).length≤n:=by
  unfold ybG
  refine Nat.le_trans (List.length_filter_le _ _) ?_
  simp
theorem ycd (x:Nat) (marks:List Nat):inV (Vn x) (marks.map Vn)=decide (x∈marks):=by
  unfold inV
  rw [List.any_map]
  rw [Bool.eq_iff_iff,List.any_eq_true,decide_eq_true_eq]
  constructor
  · rintro ⟨y,hy,h⟩
    have:((y:Int)==(x:Int))=true:=h
    rw [←Int.ofNat.inj (eq_of_beq this)];exact hy
  · intro h
    exact ⟨x,h,beq_self_eq_true ((x:Nat):Int)⟩
theorem zcj (marks:List Nat):(marks.map Vn).all ydg=true:=by
  rw [List.all_eq_true]
  intro v hv
  obtain ⟨x,_,rfl⟩:=List.mem_map.mp hv
  rfl
end
end My
end
section
-- text: PG
namespace My
open PySem L2 Dg
local macro_rules | `(tactic| walk_at "rd") => `(tactic| repeat (first | refine ⟨_, rfl, ?_⟩ | refine ⟨_, _, rfl, rfl, ?_⟩))
section
variable {p m t:Nat} (G:Good p m t)
include G
end
section
variable {P:Program} {w:World} {K:PySem.W.Frag} {mg:Str→Option Value} {base:Heap} {f:Addr} {fd:FuncData}
end
end My
end
section
-- text: PK
namespace My
open PySem L2 Dg
local macro_rules | `(tactic| walk_at "rd") => `(tactic| repeat (first | refine ⟨_, rfl, ?_⟩ | refine ⟨_, _, rfl, rfl, ?_⟩))
theorem yhf {X:Cx} {i o:Expr} {ty td:TE} {q:Pos} (hu:X.A.units+1<cLine) (hi:PE X i ty) (ho:PE X o td) (hm:behindInMarks .In o=false):PT X (.Compare i [.In] [o] q) (tB (tDIn ty td)):=zg2 (yha hu hi ho) hm
theorem ycU {n:Nat} (h:n≤5000):n<sizeLine:=by rw [sizeLine_eq];omega
theorem yeJ {ns:List Nat} {n:Nat} (h:∀x∈ns,x<n) (hn:n<64):∀ks:List Int,ks.Nodup→(∀k∈ks,k∈ns.map fun x:Nat=>(x:Int))→ks.length<64:=by
  intro ks hks hsub
  have:=zcc (τ:=(List.range n).map fun i:Nat=>(i:Int)) hks fun k hk=>by
    obtain ⟨x,hx,rfl⟩:=List.mem_map.mp (hsub k hk)
    exact List.mem_map.mpr ⟨x,List.mem_range.mpr (h x hx),rfl⟩
  rw [List.length_map,List.length_range] at this
  omega
theorem yd0 {ns:List Nat} {ns':List Int} (hasc:ns'.Pairwise (· < ·)) (hmem:∀k,k∈ns'↔k∈ns.map fun x:Nat=>(x:Int)):∃marks:List Nat,(ns'=marks.map fun x:Nat=>(x:Int))∧marks.Pairwise (· < ·)∧∀x,x∈marks↔x∈ns:=by
  obtain ⟨marks,hmk⟩:∃marks:List Nat,ns'=marks.map fun x:Nat=>(x:Int):=by
    refine ⟨ns'.map Int.toNat,?_⟩
    rw [List.map_map]
    conv=>lhs;rw [←List.map_id ns']
    refine List.map_congr_left fun k hk=>?_
    obtain ⟨x,_,rfl⟩:=List.mem_map.mp ((hmem k).mp hk)
    rfl
  subst hmk
  refine ⟨marks,rfl,?_,fun x=>?_⟩
  · rw [List.pairwise_map] at hasc
    exact hasc.imp fun h=>by omega
  · have:=hmem (x:Int)
    constructor
    · intro h
      obtain ⟨y,hy,e⟩:=List.mem_map.mp (this.mp (List.mem_map_of_mem h))
      rw [←Int.ofNat.inj e];exact hy
    · intro h
      obtain ⟨y,hy,e⟩:=List.mem_map.mp (this.mpr (List.mem_map_of_mem h))
      rw [←Int.ofNat.inj e];exact hy
theorem yd7 {marks:List Nat} {n:Nat} (h:marks.Pairwise (· < ·)) (hl:∀x∈marks,x<n):marks.length≤n:=by
  have:=zcc (σ:=marks) (τ:=List.range n) (h.imp fun h=>by omega) fun x hx=>List.mem_range.mpr (hl x hx)
  rwa [List.length_range] at this
section
variable {P:Program} {w:World} {K:PySem.W.Frag} {mg:Str→Option Value} {base:Heap} {f:Addr} {fd:FuncData}
def zel:Sp:=fun vs H Q _=>∃(pu g:Addr) (most:Nat),vs=[.ref pu,Vn most]∧Pu H pu g∧1≤most∧
  ∀(r tb fa pa la wh mk:Addr) (p m t b few root n:Nat) (marks:List Nat) H',H' r=some (.tup [.ref tb,.ref wh,Vn n])→Tab H' tb fa pa la p m t b→yeQ pu g tb fa pa la→WhAt H' wh fa mk few root marks→(wh≠pu∧wh≠g)→(mk≠pu∧mk≠g)→Whl p m t few root n marks→n≤most→Pu H' pu g→yan pu g H H'→Q (.ref r) H'
theorem zaG:yaj ["_law_purse_here","_law_most","_law_many","_law_table_here","_law_wheel_here","_law_n","_law_first","_law_marks","_law_k"] ["_law_purse_here","_law_most"] (zad zba):=⟨rfl,rfl,rfl,by decide +kernel,rfl,by decide +kernel,by decide +kernel⟩
theorem ygg (B:Bl mg) (h__law_pick:Has P w K mg base 1 "_law_pick" ["_law_purse_here","_law_many"] zbN) (h__law_wheel:Has P w K mg base 5 "_law_wheel" ["_law_purse_here","_law_most"] zdA) (h__law_round:Has P w K mg base 2 "_law_round" ["_law_table_here","_law_one"] ycL) (h__law_ring:Has P w K mg base 1 "_law_ring" ["_law_i","_law_n","_law_q"] ycu) (h__law_raised:Has P w K mg base 1 "_law_raised" ["_law_one","_law_many"] zap)
    (F:Fun K "_law_rich" "_law_rich" zba f fd):FnOk P w K mg base CX0 6 f fd ["_law_purse_here","_law_most"] zel:=by
  refine F.ok zaG (fun vs H Q E h=>?_) (fun cdv A outer s H vs Q E hr h=>?_)
  · obtain ⟨pu,g,most,rfl,_⟩:=h;rfl
  obtain ⟨pu,g,most,rfl,hP,hmost,q⟩:=h
  refine ⟨_,(yab (@zag _ _ 2 _ _ _ _ zaG.nd rfl (Or.inl rfl) (yad h__law_pick hr (by decide) rfl (zaa (pv 0) (zaa yac yaa (by rfl)) (by rfl)) (by decide) (by rfl) (by rfl)) (by rfl) (by trivial)) (yab (@za6 _ _ _ _ _ _ (yad h__law_wheel hr (by decide) rfl (zaa (pv 0) (zaa (pv 1) yaa (by rfl)) (by rfl)) (by decide) (by rfl) (by rfl)) (@ya8 _ _ _ _ _ _ rfl (zah (@yae _ _ 3 _ zaG.nd rfl (Or.inl rfl) (by trivial)) (zah (@yae _ _ 4 _ zaG.nd rfl (Or.inl rfl) (by trivial)) yaH (by rfl)) (by rfl)) (by rfl) (by rfl)) (by rfl) (by rfl) (by rfl)) (yab (@zag _ _ 5 _ _ _ _ zaG.nd rfl (Or.inl rfl) (yad h__law_round hr (by decide) rfl (zaa (pv 3) (zaa (zan yas (pv 4) yac (fun _ _=>rfl)) yaa (by rfl)) (by rfl)) (by decide) (by rfl) (by rfl)) (by rfl) (by trivial)) (yab (@ybB _ _ 6 7 _ _ _ _ _ _ _ _ _ _ _ rfl zaG.nd rfl rfl (by decide) rfl rfl (zaa (yad h__law_pick hr (by decide) rfl (zaa (pv 0) (zaa (pv 5) yaa (by rfl)) (by rfl)) (by decide) (by rfl) (by rfl)) (zaa (yaq ybs rfl (B "list" (by decide)) zaP (zaa (zan yas (pv 4) yac (fun _ _=>rfl)) yaa (by rfl)) (by decide) (by decide) (by rfl) (by rfl)) yaa (by rfl)) (by rfl)) rfl (by rfl)) (yab (@yaD _ _ _ _ _ _ _ _ PassesOwn.never rfl (@yau _ _ _ _ _ _ rfl (B "range" (by decide)) (zaa (pv 2) yaa (by rfl)) (by rfl)) (@yae _ _ 8 _ zaG.nd rfl (Or.inl rfl) (by trivial)) (zae (@yba _ _ _ _ _ _ _ _ (@zai _ _ _ _ _ _ _ _ zgh (yaf yar (zak yah rfl (B "len" (by decide)) PySem.boot_len (zaa (pv 7) yaa (by rfl)) (by decide) (by decide) (by rfl) (by rfl)) yac) (pv 5) (yal _)) (zae (@zag _ _ 7 _ _ _ _ zaG.nd rfl (Or.inl rfl) (@zdd _ _ _ _ _ _ _ rfl rfl (B "sorted" (by decide)) rfl (B "set" (by decide)) (yaf zcB (pv 7) (yad h__law_ring hr (by decide) rfl (zaa (yaf yar (pv 6) (pv 8)) (zaa (pv 5) (zaa (yad h__law_raised hr (by decide) rfl (zaa (@yaz _ _ _ _ _ _ (zbn hr) (pv 3) yaF (fun _ _=>rfl)) (zaa (zan yas (pv 4) yac (fun _ _=>rfl)) yaa (by rfl)) (by rfl)) (by decide) (by rfl) (by rfl)) yaa (by rfl)) (by rfl)) (by rfl)) (by decide) (by rfl) (by rfl))) (by rfl) (by rfl)) (by rfl) (by trivial))) zax)) (by intro _;rfl)) (zae (@zal _ _ _ _ (@zaR _ _ _ _ _ (zaa (pv 3) (zaa (yaf zcF (@ybv _ _ _ _ _ _ _ _ _ _ zgv (pv 4) ybX (@zbY _ _ _ yac)) (@zaR _ _ _ _ _ (zaa (yaq zaI rfl (B "tuple" (by decide)) yaA (zaa (pv 7) yaa (by rfl)) (by decide) (by decide) (by rfl) (by rfl)) yaa (by rfl)))) (zaa (pv 5) yaa (by rfl)) (by rfl)) (by rfl)))))))))),?_⟩
  refine ⟨_,rfl,pu,g,7,rfl,hP,by omega,by omega,fun many H1 hmany hP1 sx1=>?_⟩
  refine ⟨_,rfl,_,rfl,pu,g,most,rfl,hP1,hmost,fun r tb fa pa la wh mk p m t b few root n marks H2 er T ap hW nwh nmk nr W hn hP2 sx2=>?_⟩
  refine ⟨r,_,rfl,SqT.of er,rfl,_,_,rfl,_,_,rfl,rfl,?_⟩
  have G:=T.good
  have hp:=G.hp
  have hm:=G.hm
  have hQ:=G.hq
  have hnq:=W.nq
  have hn1:=W.ord.pos
  refine ⟨_,rfl,_,rfl,wh,_,_,Vn root,rfl,rfl,SqT.of hW.w,rfl,tb,fa,pa,la,p,m,t,b,root,rfl,T,W.r0,W.rq,fun n' o' hn'=>?_⟩
  cases o'.uniq W.ord
  dsimp only [zau]
  refine ⟨_,rfl,_,rfl,pu,g,n,rfl,hP2,by omega,by omega,fun first H3 hfirst hP3 sx3=>?_⟩
  have T3:=T.x ap sx3
  have hW3:=hW.x nwh nmk sx3
  refine ⟨_,rfl,wh,_,_,.ref mk,rfl,rfl,SqT.of hW3.w,rfl,?_⟩
  refine ⟨mk,_,rfl,.inr (SqT.of hW3.k),fun m0 hm0=>?_⟩
  have s4:=zac hm0 (.lst (marks.map Vn))
  have T4:=T3.same s4
  have hW4:=hW3.same s4
  have hP4:=hP3.same s4
  have e4:upd H3 m0 (.lst (marks.map Vn)) m0=some (.lst (marks.map Vn)):=zab
  have sx4:=(sx1.trans (sx2.trans sx3)).trans (Same.x s4)
  refine ⟨_,_,rfl,?_⟩
  generalize upd H3 m0 (.lst (marks.map Vn))=H4 at s4 T4 hW4 hP4 e4 sx4 ⊢
  have hfewm:few≤m:=Nat.le_of_dvd (by omega) (Nat.dvd_of_mod_eq_zero W.fewm)
  have hm6:=m_le hp hQ
  have hqq:p^few≤64:=Nat.le_trans (Nat.pow_le_pow_right (by omega) hfewm) hQ
  have hrnd:=Ord.round G W.r0 W.rq W.ord W.fewm W.few1
  have hme:1≤m/few:=Nat.div_pos hfewm W.few1
  have hme2:m/few≤6:=Nat.le_trans (Nat.div_le_self _ _) hm6
  refine ⟨_,rfl,many,rfl,by omega,by omega,?_⟩
  refine yaI (n:=many) (fun i σ H'=>Same H4 H'∧∃(ml:Addr) (ns:List Nat) (s8:Option V),H' ml=some (.lst (ns.map Vn))∧ns.Pairwise (· < ·)∧(∀x∈ns,x<n)∧(∀x∈ns,x*p^few%n∈ns)∧
    σ=[some (.ref pu),some (Vn most),some (Vn many),some (.ref tb),some (.ref wh),some (Vn n),some (Vn first),some (.ref ml),s8]) ⟨Same.refl _,m0,marks,none,e4,W.asc,W.lt,W.closed,rfl⟩ ?_ ?_
  · rintro i σ H5 hi ⟨s5,ml,ns,s8,e5,a1,a2,a3,rfl⟩
    have hnl:=yd7 a1 a2
    refine ⟨_,rfl,ml,_,rfl,.inl (SqL.of e5),_,_,rfl,rfl,_,rfl,_,_,rfl,rfl,_,rfl,?_⟩
    refine ite2 (fun c=>?_) (fun c=>?_)
    · have T5:=T4.same s5
      have hW5:=hW4.same s5
      refine ⟨_,rfl,_,rfl,_,rfl,_,_,rfl,rfl,_,rfl,_,rfl,tb,_,rfl,T5.get yfe,_,rfl,wh,_,_,Vn few,rfl,rfl,SqT.of hW5.w,rfl,p,few,rfl,p_le hp hm hQ,by omega,?_⟩
      refine ⟨first+i,n,p^few,m/few,?_,by omega,by omega,hqq,hme,hme2,hrnd,fun rr rs H6 s6 nr6 er6 h1 h2 h3 h4 _ _ _=>?_⟩
      · show [V.int ((first:Int)+(0+(i:Int))),Vn n,Vn (p^few)]=[Vn (first+i),Vn n,Vn (p^few)]
        rw [show (first:Int)+(0+(i:Int))=((first+i:Nat):Int) by omega]
      refine ⟨ml,rr,_,_,rfl,rfl,s6 _ _ e5,er6,by rw [List.length_map,List.length_map];exact szl _ (by omega),fun l hl=>?_⟩
      rw [←List.map_append]
      have s7:=zac hl (.lst ((ns++rs).map Vn))
      have hall:∀x∈ns++rs,x<n:=fun x hx=>by
        rcases List.mem_append.mp hx with h|h
        · exact a2 x h
        · exact h3 x h
      refine ⟨l,(ns++rs).map (fun x:Nat=>(x:Int)),rfl,SqL.of (by rw [mapI];exact zab),by rw [List.length_map,List.length_append];omega,yeJ hall (by omega),fun l2 ns' hl2 hasc hmem=>?_⟩
      obtain ⟨mks,rfl,b1,b2⟩:=yd0 hasc hmem
      rw [mapI]
      have s8':=zac hl2 (.lst (mks.map Vn))
      refine ⟨((s5.trans s6).trans s7).trans s8',l2,mks,_,zab,b1,fun x hx=>hall x ((b2 x).mp hx),fun x hx=>(b2 _).mpr ?_,rfl⟩
      rcases List.mem_append.mp ((b2 x).mp hx) with h|h
      · exact List.mem_append_left _ (a3 x h)
      · exact List.mem_append_right _ (h4 x h)
    · exact ⟨s5,ml,ns,_,e5,a1,a2,a3,rfl⟩
  · rintro σ H5 ⟨s5,ml,ns,s8,e5,a1,a2,a3,rfl⟩
    have T5:=T4.same s5
    have hW5:=hW4.same s5
    have hP5:=hP4.same s5
    refine ⟨_,rfl,_,rfl,_,rfl,wh,_,rfl,SqT.of hW5.w,by rintro ⟨_,h⟩;exact absurd (show HT.sIx 4 4 (some 3)=4 from h) (by decide),fun w1 hw1=>?_⟩
    have s6:=zac hw1 (.tup [.ref fa,Vn few,Vn root])
    refine ⟨_,rfl,ml,_,rfl,.inl ⟨SqL.of (s6 _ _ e5),fun k1 hk1=>?_⟩⟩
    have s7:=zac hk1 (.tup (ns.map Vn))
    refine ⟨szl 1,fun w2 hw2=>?_⟩
    have s8':=zac hw2 (.tup [.ref k1])
    refine ⟨w1,w2,[.ref fa,Vn few,Vn root],[.ref k1],rfl,rfl,SqT.of (s8' _ _ (s7 _ _ zab)),SqT.of zab,szl 4,fun h=>absurd h (by simp),fun _ h=>absurd h (by simp),fun _ _ w3 hw3=>?_⟩
    have s9:=zac hw3 (.tup [.ref fa,Vn few,Vn root,.ref k1])
    refine ⟨_,rfl,szl 3,fun r3 hr3=>?_⟩
    have s10:=zac hr3 (.tup [.ref tb,.ref w3,Vn n])
    have hP6:=hP5.same s6
    have hP7:=hP6.same s7
    have hP8:=hP7.same s8'
    refine q r3 tb fa pa la w3 k1 p m t b few root n ns _ zab (((((T5.same s6).same s7).same s8').same s9).same s10) ap ⟨s10 _ _ zab,s10 _ _ (s9 _ _ (s8' _ _ zab))⟩ (hP8.lt hw3) (hP6.lt hk1) ⟨W.few1,W.fewm,W.r0,W.rq,W.ord,W.nq,a1,a2,a3⟩ hn ((hP8.same s9).same s10) ?_
    exact sx4.trans (Same.x (s5.trans (s6.trans (s7.trans (s8'.trans (s9.trans s10))))))
theorem zcd:yaj ["_law_one","_law_other"] ["_law_one","_law_other"] (zad ya1):=⟨rfl,rfl,rfl,by decide +kernel,rfl,by decide +kernel,by decide +kernel⟩
theorem yfb (B:Bl mg) (F:Fun K "_law_share" "_law_share" ya1 f fd):FnOk P w K mg base CX0 1 f fd ["_law_one","_law_other"] ygv:=by
  refine F.ok zcd (fun vs H Q E h=>?_) (fun cdv A outer s H vs Q E hr h=>?_)
  · obtain ⟨a,b,rfl,_⟩:=h;rfl
  obtain ⟨a,b,rfl,q⟩:=h
  refine ⟨_,(yab (@zaT _ _ _ _ _ _ PassesOwn.never (@zai _ _ _ _ _ _ _ _ ycb (pv 1) yac (yal _)) (zae (@ybB _ _ 0 1 _ _ _ _ _ _ _ _ _ _ _ rfl zcd.nd rfl rfl (by decide) rfl rfl (zaa (pv 1) (zaa (yaf zaz (pv 0) (pv 1)) yaa (by rfl)) (by rfl)) rfl (by rfl)))) (zae (@zal _ _ _ _ (pv 0)))),?_⟩
  refine yaW (fun σ H'=>H'=H∧∃o u:Nat,σ=[some (Vn o),some (Vn u)]∧Nat.gcd o u=Nat.gcd a b) (fun σ _=>mI σ 1) ⟨rfl,a,b,rfl,rfl⟩ ?_
  rintro σ H' ⟨rfl,o,u,rfl,e⟩
  refine ⟨_,rfl,_,_,rfl,rfl,_,rfl,?_⟩
  refine ite2 (fun c=>?_) (fun c=>?_)
  have c':0<u:=by have:=of_decide_eq_true c;omega
  rotate_left
  have c':u=0:=by have:=of_decide_eq_false (Bool.eq_false_iff.mpr c);omega
  rotate_left
  · refine ⟨fun σ' H''=>H''=H'∧σ'=[some (Vn u),some (Vn (o%u))],?_,?_⟩
    · rintro σ' H'' ⟨rfl,rfl⟩
      refine ⟨_,by show o%u<u;exact Nat.mod_lt _ c',rfl,rfl,u,o%u,rfl,?_⟩
      rw [←e,Nat.gcd_comm o u,Nat.gcd_rec u o,Nat.gcd_comm]
    · exact ⟨_,rfl,_,rfl,_,rfl,_,_,rfl,rfl,by show (0:Int)<u;omega,_,_,rfl,rfl,rfl⟩
  · refine ⟨_,rfl,?_⟩
    have e2:o=Nat.gcd a b:=by rw [←e,c',Nat.gcd_zero_right]
    rw [e2];exact q
structure RowP (marks:List Nat) (n f s r:Nat):Prop where
  c:Cand n f s
  le:r≤n
  all:∀k,k<r→(f+k*s)%n∈marks
def zcu (marks:List Nat) (n:Nat) (H:Hp) (a:Addr):Prop:=∃f s r:Nat,H a=some (.tup [Vn f,Vn s,Vn r])∧RowP marks n f s r
theorem zcu.same {marks:List Nat} {n:Nat} {H H':Hp} {a:Addr} (h:zcu marks n H a) (s:Same H H'):zcu marks n H' a:=by obtain ⟨f,s',r,h1,h2⟩:=h;exact ⟨f,s',r,s _ _ h1,h2⟩
theorem zcu.upd {marks:List Nat} {n:Nat} {H:Hp} {a l:Addr} {xs:List V} {o:HO} (h:zcu marks n H a) (e:H l=some (.lst xs)):zcu marks n (L2.upd H l o) a:=by
  obtain ⟨f,s',r,h1,h2⟩:=h
  exact ⟨f,s',r,by rw [yag (fun q=>by rw [q,e] at h1;cases h1)];exact h1,h2⟩
theorem zeD (marks:List Nat) (x:Nat):(valV (marks.map fun k:Nat=>((Sum.inl (k:Int):Key),V.bl true)) (Sum.inl (x:Int))).isSome=decide (x∈marks):=by
  unfold valV
  induction marks with
  | nil=>rfl
  | cons y ys ih =>
    rw [List.map_cons,List.find?_cons]
    by_cases c:y=x
    · subst c;simp
    · have c2:decide ((Sum.inl (y:Int):Key)=Sum.inl (x:Int))=false:=decide_eq_false fun e=>c (Int.ofNat.inj (Sum.inl.inj e))
      rw [c2]
      dsimp only
      rw [ih]
      exact decide_eq_decide.mpr ⟨fun h=>List.mem_cons_of_mem _ h,fun h=>by rcases List.mem_cons.mp h with h|h;exact absurd h.symm c;exact h⟩
def p3 (H:Hp) (a:Addr):Nat:=match H a with
  | some (.tup [_,_,.int r])=>r.toNat
  | _=>0
theorem zfz {H:Hp} {a:Addr} {f s r:Nat} (h:H a=some (.tup [Vn f,Vn s,Vn r])):p3 H a=r:=by unfold p3;rw [h];rfl
def zdF:Sp:=fun vs H Q _=>∃(pu g wh fa mk:Addr) (few root n:Nat) (marks:List Nat),vs=[.ref pu,.ref wh,Vn n]∧Pu H pu g∧WhAt H wh fa mk few root marks∧(wh≠pu∧wh≠g)∧(mk≠pu∧mk≠g)∧1≤n∧n≤63∧marks.Pairwise (· < ·)∧(∀x∈marks,x<n)∧
  ∀(r:Addr) (f s m':Nat) H',H' r=some (.tup [Vn f,Vn s,Vn m'])→(r≠pu∧r≠g)→RowP marks n f s m'→Pu H' pu g→yan pu g H H'→Q (.ref r) H'
theorem yao:yaj ["_law_purse_here","_law_wheel_here","_law_n","_law_way","_law_papers","_law_marks","_law_step","_law_first","_law_many","_law_most"] ["_law_purse_here","_law_wheel_here","_law_n"] (zad zay):=⟨rfl,rfl,rfl,by decide +kernel,rfl,by decide +kernel,by decide +kernel⟩
theorem yfK (B:Bl mg) (h__law_pick:Has P w K mg base 1 "_law_pick" ["_law_purse_here","_law_many"] zbN) (h__law_share:Has P w K mg base 1 "_law_share" ["_law_one","_law_other"] ygv) (F:Fun K "_law_paper" "_law_paper" zay f fd):FnOk P w K mg base CX0 2 f fd ["_law_purse_here","_law_wheel_here","_law_n"] zdF:=by
  refine F.ok yao (fun vs H Q E h=>?_) (fun cdv A outer s H vs Q E hr h=>?_)
  · obtain ⟨pu,g,wh,fa,mk,few,root,n,marks,rfl,_⟩:=h;rfl
  obtain ⟨pu,g,wh,fa,mk,few,root,n,marks,rfl,hP,hW,nwh,nmk,hn1,hn2,hasc,hlt,q⟩:=h
  have hml:=yd7 hasc hlt
  refine ⟨_,(yab (@za6 _ _ _ _ _ _ (@zaR _ _ _ _ _ (zaa (yad h__law_pick hr (by decide) rfl (zaa (pv 0) (zaa yac yaa (by rfl)) (by rfl)) (by decide) (by rfl) (by rfl)) (zaa (@zaE _ _ _ _ yaa) yaa (by rfl)) (by rfl))) (@ya8 _ _ _ _ _ _ rfl (zah (@yae _ _ 3 _ yao.nd rfl (Or.inr rfl) (by trivial)) (zah (@yae _ _ 4 _ yao.nd rfl (Or.inl rfl) (by trivial)) yaH (by rfl)) (by rfl)) (by rfl) (by rfl)) (by rfl) (by rfl) (by rfl)) (yab (@zag _ _ 5 _ _ _ _ yao.nd rfl (Or.inl rfl) (yaq (zbp rfl) rfl (B "dict" (by decide)) zbQ (zaa (@yaM _ _ _ _ _ _ _ ["_law_mark"] [] [] _ _ _ _ (id (α:=CSc ["_law_purse_here","_law_wheel_here","_law_n","_law_way","_law_papers","_law_marks","_law_step","_law_first","_law_many","_law_most"] (zad zay) ["_law_mark"] [] [] _) ⟨by rfl,by decide +kernel,by decide +kernel,by decide +kernel,by decide +kernel,by rfl,by decide +kernel⟩) rfl (@zcA _ _ _ _ (zan yas (pv 1) yac (fun _ _=>rfl))) (fun cl C fp s H=>(@yae _ _ 0 _ (by show List.Nodup (["_law_mark"]:List Str);decide +kernel) rfl (Or.inl rfl) (by trivial))) (fun _ _ _ _ _=>yaL) (fun _ _ _ _ _=>(@zaR _ _ _ _ _ (zaa (pv 0) (zaa yci yaa (by rfl)) (by rfl)))) (by intro _;rfl)) yaa (by rfl)) (by decide) (by decide) (by rfl) (by rfl)) (by rfl) (by trivial)) (yab (@yaD _ _ _ _ _ _ _ _ PassesOwn.never rfl (@ya7 _ _ _ _ (@yaM _ _ _ _ _ _ _ ["_law_one"] ["_law_n"] [2] _ _ _ _ (id (α:=CSc ["_law_purse_here","_law_wheel_here","_law_n","_law_way","_law_papers","_law_marks","_law_step","_law_first","_law_many","_law_most"] (zad zay) ["_law_one"] ["_law_n"] [2] _) ⟨by rfl,by decide +kernel,by decide +kernel,by decide +kernel,by decide +kernel,by rfl,by decide +kernel⟩) rfl (@ybP _ _ _ _ _ _ _ rfl (B "range" (by decide)) (zaa yac (zaa (yaf yar (pv 2) yac) yaa (by rfl)) (by rfl)) (by rfl) (by rfl)) (fun cl C fp s H=>(@yae _ _ 0 _ (by show List.Nodup (["_law_one","_law_n"]:List Str);decide +kernel) rfl (Or.inl rfl) (by trivial))) (fun _ _ _ _ _=>(@ybd _ _ _ (@zai _ _ _ _ _ _ _ _ zbr (yad h__law_share hr (by decide) rfl (zaa (pv 0) (zaa (pv 1) yaa (by rfl)) (by rfl)) (by decide) (by rfl) (by rfl)) yac (yal _)))) (fun _ _ _ _ _=>(pv 0)) (by intro _;rfl))) (@yae _ _ 6 _ yao.nd rfl (Or.inl rfl) (by trivial)) (zae (@yaD _ _ _ _ _ _ _ _ PassesOwn.never rfl (@yau _ _ _ _ _ _ rfl (B "range" (by decide)) (zaa (pv 2) yaa (by rfl)) (by rfl)) (@yae _ _ 7 _ yao.nd rfl (Or.inl rfl) (by trivial)) (yab (@zag _ _ 8 _ _ _ _ yao.nd rfl (Or.inl rfl) yac (by rfl) (by trivial)) (yab (@zaT _ _ _ _ _ _ PassesOwn.never (@PW.pt _ _ _ (@zfP _ _ _ _ _ _ _ (@zai _ _ _ _ _ _ _ _ zgh (pv 8) (pv 2) (yal _)) (@zea _ _ _ _ (@yhf _ _ _ _ _ _ (zbn hr) (yaf zaz (yaf yar (pv 7) (yaf yaX (pv 8) (pv 6))) (pv 2)) (pv 5) (by with_unfolding_all rfl))))) (zae (@zag _ _ 8 _ _ _ _ yao.nd rfl (Or.inl rfl) (yaf yar (pv 8) yac) (by rfl) (by trivial)))) (zae (@ybV _ _ _ _ (@zcG _ _ _ _ _ _ _ _ _ _ _ _ PySem.F.plainAttrs_list PySem.F.slot_list_append PySem.F.type_list_append ybp (pv 4) (zaa (@zaR _ _ _ _ _ (zaa (pv 7) (zaa (pv 6) (zaa (pv 8) yaa (by rfl)) (by rfl)) (by rfl))) yaa (by rfl)) (by rfl) (by rfl) (by rfl) (by rfl) (by rfl)) (by rfl))))) (by intro _;rfl))) (by intro _;rfl)) (yab (@zag _ _ 9 _ _ _ _ yao.nd rfl (Or.inr rfl) (zak (zdL rfl) rfl (B "max" (by decide)) ycB (zaa (@yaM _ _ _ _ _ _ _ ["_law_paper_here"] [] [] _ _ _ _ (id (α:=CSc ["_law_purse_here","_law_wheel_here","_law_n","_law_way","_law_papers","_law_marks","_law_step","_law_first","_law_many","_law_most"] (zad zay) ["_law_paper_here"] [] [] _) ⟨by rfl,by decide +kernel,by decide +kernel,by decide +kernel,by decide +kernel,by rfl,by decide +kernel⟩) rfl (@ya7 _ _ _ _ (pv 4)) (fun cl C fp s H=>(@yae _ _ 0 _ (by show List.Nodup (["_law_paper_here"]:List Str);decide +kernel) rfl (Or.inl rfl) (by trivial))) (fun _ _ _ _ _=>yaL) (fun _ _ _ _ _=>(zan (ybg (K:=K) rfl) (pv 0) yac (fun _ _=>rfl))) (by intro _;rfl)) yaa (by rfl)) (by decide) (by decide) (by rfl) (by rfl)) (by rfl) (by trivial)) (yab (@zbA _ 4 _ _ _ _ _ _ _ _ _ ["_law_paper_here"] ["_law_way","_law_most"] [3,9] _ _ _ _ yao.nd rfl (Or.inl rfl) (id (α:=CSc ["_law_purse_here","_law_wheel_here","_law_n","_law_way","_law_papers","_law_marks","_law_step","_law_first","_law_many","_law_most"] (zad zay) ["_law_paper_here"] ["_law_way","_law_most"] [3,9] _) ⟨by rfl,by decide +kernel,by decide +kernel,by decide +kernel,by decide +kernel,by rfl,by decide +kernel⟩) rfl (@ya7 _ _ _ _ (pv 4)) (fun cl C fp s H=>(@yae _ _ 0 _ (by show List.Nodup (["_law_paper_here","_law_way","_law_most"]:List Str);decide +kernel) rfl (Or.inl rfl) (by trivial))) (fun _ _ _ _ _=>(@ybd _ _ _ (@PW.pt _ _ _ (@yd4 _ _ _ _ _ _ _ (@zai _ _ _ _ _ _ _ _ ycb (pv 1) yac (yal _)) (@zcJ _ _ _ _ (@zai _ _ _ _ _ _ _ _ zbr (zan (ybg (K:=K) rfl) (pv 0) yac (fun _ _=>rfl)) (pv 2) (yal _))))))) (fun _ _ _ _ _=>(pv 0)) (by rfl) (by intro _;rfl) (by trivial)) (yab (@za6 _ _ _ _ _ _ (zan zaq (pv 4) (yad h__law_pick hr (by decide) rfl (zaa (pv 0) (zaa (zak yah rfl (B "len" (by decide)) PySem.boot_len (zaa (pv 4) yaa (by rfl)) (by decide) (by decide) (by rfl) (by rfl)) yaa (by rfl)) (by rfl)) (by decide) (by rfl) (by rfl)) (fun _ _=>rfl)) (@ya8 _ _ _ _ _ _ rfl (zah (@yae _ _ 7 _ yao.nd rfl (Or.inl rfl) (by trivial)) (zah (@yae _ _ 6 _ yao.nd rfl (Or.inl rfl) (by trivial)) (zah (@yae _ _ 8 _ yao.nd rfl (Or.inl rfl) (by trivial)) yaH (by rfl)) (by rfl)) (by rfl)) (by rfl) (by rfl)) (by rfl) (by rfl) (by rfl)) (yab (@yba _ _ _ _ _ _ _ _ (@zai _ _ _ _ _ _ _ _ zbr (yaf zaz (pv 3) yac) yac (yal _)) (zae (@zag _ _ 8 _ _ _ _ yao.nd rfl (Or.inl rfl) (yad h__law_pick hr (by decide) rfl (zaa (pv 0) (zaa (yaf yar (pv 8) yac) yaa (by rfl)) (by rfl)) (by decide) (by rfl) (by rfl)) (by rfl) (by trivial))) zax) (zae (@zal _ _ _ _ (@zaR _ _ _ _ _ (zaa (pv 7) (zaa (pv 6) (zaa (pv 8) yaa (by rfl)) (by rfl)) (by rfl)))))))))))),?_⟩
  refine ⟨_,rfl,pu,g,4,rfl,hP,by omega,by omega,fun way H1 hway hP1 sx1=>?_⟩
  refine ⟨szl 0,fun pl hpl=>?_⟩
  have s2:=zac hpl (.lst [])
  refine ⟨szl 2,fun t2 ht2=>?_⟩
  have s3:=zac ht2 (.tup [Vn way,.ref pl])
  refine ⟨t2,_,rfl,SqT.of zab,rfl,_,_,rfl,_,_,rfl,rfl,?_⟩
  have npl:=hP1.lt hpl
  have hP3:=(hP1.same s2).same s3
  have e3:upd (upd H1 pl (.lst [])) t2 (.tup [Vn way,.ref pl]) pl=some (.lst (([]:List Addr).map V.ref)):=s3 _ _ zab
  have sx3:=sx1.trans (Same.x (s2.trans s3))
  have hW3:=hW.x nwh nmk sx3
  have nH:H pl=none:=by
    rcases e:H pl with _|o
    · rfl
    · rw [sx1 pl o npl.1 npl.2 e] at hpl;cases hpl
  dsimp only [zau]
  generalize upd (upd H1 pl (.lst [])) t2 (.tup [Vn way,.ref pl])=H3 at hP3 e3 sx3 hW3 ⊢
  refine ⟨_,rfl,wh,_,_,.ref mk,rfl,rfl,SqT.of hW3.w,rfl,mk,rfl,⟨_,SqT.of hW3.k⟩,?_⟩
  refine zar (ybL (xs:=marks.map Vn)) (fun k acc H'=>Same H3 H'∧∃ts:List Addr,acc=ts.map V.ref∧ts.length=k∧∀(j:Nat) t',ts[j]?=some t'→H' t'=some (.tup [Vn (marks.getD j 0),.bl true])) ⟨Same.refl _,([]:List Addr),rfl,rfl,fun j t' h=>absurd h (by simp)⟩ (fun i acc H' _ h=>SqT.of (h.1 _ _ hW3.k)) ?_ ?_ ?_
  · rintro k acc H' hk ⟨_,ts,rfl,hl,_⟩
    rw [List.length_map] at hk
    rw [List.length_map,hl];exact zam (by omega)
  · rintro k acc z H' H'' hk ⟨s',ts,rfl,hl,hts⟩ ⟨rfl,ez⟩
    rw [List.length_map] at hk
    rw [zat hk] at ez
    cases ez
    refine ⟨_,rfl,szl 2,fun a ha=>?_⟩
    have sn:=zac ha (.tup [Vn (marks.getD k 0),.bl true])
    refine ⟨s'.trans sn,ts++[a],by rw [List.map_append];rfl,by simp [hl],fun j t' h=>?_⟩
    by_cases c:j<k
    · rw [List.getElem?_append_left (by omega)] at h
      exact sn _ _ (hts j t' h)
    · have ej:j=k:=by
        have:=(List.getElem?_eq_some_iff.mp h).1
        simp [hl] at this;omega
      subst ej
      rw [List.getElem?_append_right (by omega),hl,Nat.sub_self] at h
      cases h
      exact zab
  rw [List.length_map]
  rintro acc H4 ⟨s4,ts,rfl,htl,hts⟩ dl hdl
  have s5:=zac hdl (.lst (ts.map V.ref))
  refine ⟨dl,ts,marks.map fun k:Nat=>((Sum.inl (k:Int):Key),V.bl true),rfl,zab,by rw [List.length_map];exact htl,by rw [List.length_map];exact szl _ (by omega),fun j t' kv h1 h2=>?_,?_,fun dd hdd=>?_⟩
  · have hj:j<marks.length:=by rw [←htl];exact (List.getElem?_eq_some_iff.mp h1).1
    rw [List.getElem?_map,List.getElem?_eq_getElem hj] at h2
    cases h2
    rw [s5 _ _ (hts j t' h1),show marks.getD j 0=marks[j] by simp [List.getD,hj]];rfl
  · rw [List.map_map]
    refine List.Pairwise.map _ (fun a b h=>?_) hasc
    intro e
    have:=Int.ofNat.inj (Sum.inl.inj e)
    omega
  have s6:=zac hdd (.dK (marks.map fun k:Nat=>((Sum.inl (k:Int):Key),V.bl true)))
  have s36:=s4.trans (s5.trans s6)
  have e6:upd (upd H4 dl (.lst (ts.map V.ref))) dd (.dK (marks.map fun k:Nat=>((Sum.inl (k:Int):Key),V.bl true))) dd=some (.dK (marks.map fun k:Nat=>((Sum.inl (k:Int):Key),V.bl true))):=zab
  have hP6:=hP3.same s36
  have p6:=s36 _ _ e3
  have sx6:=sx3.trans (Same.x s36)
  dsimp only [zau]
  generalize upd (upd H4 dl (.lst (ts.map V.ref))) dd (.dK (marks.map fun k:Nat=>((Sum.inl (k:Int):Key),V.bl true)))=H6 at s36 e6 hP6 p6 sx6 ⊢
  refine ⟨_,rfl,_,_,rfl,rfl,1,((n+1:Nat):Int),rfl,by omega,?_⟩
  refine zar zaK (fun k acc H'=>H'=H6∧acc=((((List.range k).map (·+1)).filter fun s=>decide (Nat.gcd s n=1)).map Vn)) ⟨rfl,rfl⟩ (fun _ _ _ _ _=>trivial) ?_ ?_ ?_
  · rintro k acc H' hk ⟨_,rfl⟩
    have:=List.length_filter_le (fun s=>decide (Nat.gcd s n=1)) ((List.range k).map (·+1))
    rw [List.length_map,List.length_range] at this
    rw [List.length_map];exact zam (by omega)
  · rintro k acc x H' H'' hk ⟨rfl,rfl⟩ ⟨rfl,rfl⟩
    refine ⟨_,rfl,_,rfl,k+1,n,by rw [show (1+(k:Int))=((k+1:Nat):Int) by omega];rfl,rfl,_,rfl,?_⟩
    have e1:((List.range (k+1)).map (·+1))=(List.range k).map (·+1)++[k+1]:=by rw [List.range_succ,List.map_append];rfl
    have ed:decide (Vn (Nat.gcd (k+1) n)=V.int 1)=decide (Nat.gcd (k+1) n=1):=ydq _
    rw [ed,e1,List.filter_append]
    refine ite2 (fun c=>?_) (fun c=>?_)
    · have c':Nat.gcd (k+1) n=1:=of_decide_eq_true c
      refine ⟨_,rfl,rfl,?_⟩
      rw [List.map_append,show V.int (1+(k:Int))=Vn (k+1) from ybN (by omega)]
      simp [c']
    · have c':¬ Nat.gcd (k+1) n=1:=fun h=>c (decide_eq_true h)
      refine ⟨rfl,?_⟩
      simp [c']
  rintro acc H7 ⟨rfl,rfl⟩ sl hsl
  rw [show (((n+1:Nat):Int)-1).toNat=n by omega]
  have eS:(((List.range n).map (·+1)).filter fun s=>decide (Nat.gcd s n=1))=ybG n:=rfl
  rw [eS]
  have s8:=zac hsl (.lst ((ybG n).map Vn))
  have e8:upd H7 sl (.lst ((ybG n).map Vn)) sl=some (.lst ((ybG n).map Vn)):=zab
  have hP8:=hP6.same s8
  have p8:=s8 _ _ p6
  have d8:=s8 _ _ e6
  have sx8:=sx6.trans (Same.x s8)
  have nslpl:sl≠pl:=Ne.symm (zaf p6 hsl)
  have nddpl:dd≠pl:=fun e=>by rw [e,p6] at e6;cases e6
  have hst:=zfa n
  generalize upd H7 sl (.lst ((ybG n).map Vn))=H8 at s8 e8 hP8 p8 d8 sx8 ⊢
  refine ⟨sl,rfl,⟨_,SqL.of e8⟩,?_⟩
  have stay:∀ {H':Hp},yan pl pl H8 H'→Pu H' pu g∧H' sl=some (.lst ((ybG n).map Vn))∧H' dd=some (.dK (marks.map fun k:Nat=>((Sum.inl (k:Int):Key),V.bl true)))∧yan pu g H H':=fun {H'} sx=>by
    obtain ⟨ns,a,b,h1,h2⟩:=hP8
    refine ⟨⟨ns,a,b,sx _ _ (Ne.symm npl.1) (Ne.symm npl.1) h1,sx _ _ (Ne.symm npl.2) (Ne.symm npl.2) h2⟩,sx _ _ nslpl nslpl e8,sx _ _ nddpl nddpl d8,fun b' o n1 n2 e=>?_⟩
    have hne:b'≠pl:=zaf e nH
    exact sx b' o hne hne (sx8 b' o n1 n2 e)
  refine zde (xs:=(ybG n).map Vn) (fun j σ H'=>yan pl pl H8 H'∧∃(ts:List Addr) (s6 s7 s8:Option V),H' pl=some (.lst (ts.map V.ref))∧ts.length=j*n∧(∀a∈ts,zcu marks n H' a)∧
    σ=[some (.ref pu),some (.ref wh),some (Vn n),some (Vn way),some (.ref pl),some (.ref dd),s6,s7,s8,none]) ⟨yan.refl,[],none,none,none,p8,by simp,fun a ha=>absurd ha (by simp),rfl⟩ ?_ ?_ ?_
  · rintro j σ H' hj ⟨sx,_⟩;exact SqL.of (stay sx).2.1
  · rintro j x σ H9 hx ⟨sx9,ts,t6,t7,t8,e9,l9,q9,rfl⟩
    rw [List.getElem?_map] at hx
    rcases hj:(ybG n)[j]? with _|st
    · rw [hj] at hx;cases hx
    rw [hj] at hx;cases hx
    have hst1:=zdD.mp (List.mem_of_getElem? hj)
    have hjl:j<(ybG n).length:=(List.getElem?_eq_some_iff.mp hj).1
    have hjn:j*n≤63*63:=Nat.mul_le_mul (by omega) hn2
    refine ⟨_,rfl,n,rfl,by omega,by omega,?_⟩
    refine yaI (n:=n) (fun i σ H'=>yan pl pl H8 H'∧∃(ts:List Addr) (s7 s8:Option V),H' pl=some (.lst (ts.map V.ref))∧ts.length=j*n+i∧(∀a∈ts,zcu marks n H' a)∧
      σ=[some (.ref pu),some (.ref wh),some (Vn n),some (Vn way),some (.ref pl),some (.ref dd),some (Vn st),s7,s8,none]) ⟨sx9,ts,_,_,e9,l9,q9,rfl⟩ ?_ ?_
    · rintro i σ HA hi ⟨sxA,ts,t7,t8,eA,lA,qA,rfl⟩
      have cand:Cand n i st:=⟨hi,hst1⟩
      change tSeq (yfu _ _) _ _ _ _
      obtain ⟨hPA,eAs,eAd,sxAH⟩:=stay sxA
      refine ybh (fun σ H'=>H'=HA∧∃r:Nat,RowP marks n i st r∧σ=[some (.ref pu),some (.ref wh),some (Vn n),some (Vn way),some (.ref pl),some (.ref dd),some (Vn st),some (Vn i),some (Vn r),none]) ?_ ?_
      · rintro σ HB ⟨rfl,r,hrow,rfl⟩
        refine ⟨_,rfl,.inl ⟨rfl,_,SqL.of eA⟩,?_⟩
        refine ⟨_,rfl,_,rfl,_,rfl,szl 3,fun a ha=>?_⟩
        have sn:=zac ha (.tup [Vn i,Vn st,Vn r])
        have pn':=sn _ _ eA
        refine ⟨pl,_,_,rfl,rfl,pn',by rw [List.length_map,lA];exact ycU (by omega),?_⟩
        have pa':zcu marks n (upd HB a (.tup [Vn i,Vn st,Vn r])) a:=⟨i,st,r,zab,hrow⟩
        refine ⟨ydS (sxA.trans (Same.x sn)),ts++[a],_,_,by rw [zab,List.map_append];rfl,by simp [lA];omega,fun a' ha'=>?_,rfl⟩
        rcases List.mem_append.mp ha' with h|h
        · exact ((qA a' h).same sn).upd pn'
        · cases List.mem_singleton.mp h
          exact pa'.upd pn'
      · intro D' _ _ _ hD'
        refine yaW (fun σ H'=>H'=HA∧∃r:Nat,r≤n∧(∀k,k<r→(i+k*st)%n∈marks)∧σ=[some (.ref pu),some (.ref wh),some (Vn n),some (Vn way),some (.ref pl),some (.ref dd),some (Vn st),some (Vn i),some (Vn r),none]) (fun σ _=>n-mI σ 8) ⟨rfl,0,Nat.zero_le _,fun k hk=>absurd hk (Nat.not_lt_zero _),?_⟩ ?_
        · show [some (V.ref pu),some (V.ref wh),some (Vn n),some (Vn way),some (V.ref pl),some (V.ref dd),some (Vn st),some (V.int (0+(i:Int))),some (V.int 0),none]=_
          rw [show (0+(i:Int))=(i:Int) by omega];rfl
        rintro σ H' ⟨rfl,r,hr1,hr2,rfl⟩
        have hrs:r*st≤64*64:=Nat.mul_le_mul (by omega) (by omega)
        refine zgC (b1:=decide (r<n)) (b2:=decide ((i+r*st)%n∈marks)) (fun Q q=>⟨_,rfl,_,rfl,_,_,rfl,rfl,_,rfl,?_⟩) (fun _ Q q=>⟨_,rfl,_,rfl,_,rfl,_,_,rfl,rfl,.inl ⟨by show -(2^64:Int)<(r:Int);omega,by show (r:Int)<2^64;omega⟩,_,_,rfl,rfl,_,rfl,_,_,rfl,rfl,by show (0:Int)<n;omega,_,rfl,dd,_,rfl,DGet.k (k:=Sum.inl (((i+r*st)%n:Nat):Int)) eAd,_,rfl,?_⟩) ?_
        · rw [show decide ((r:Int)<(n:Int))=decide (r<n) from decide_eq_decide.mpr ⟨fun h=>by omega,fun h=>by omega⟩];exact q
        · rw [zeD];exact q
        refine ite2 (fun c=>?_) (fun c=>?_)
        · simp only [Bool.and_eq_true,decide_eq_true_eq] at c
          refine ⟨fun σ' H''=>H''=H'∧σ'=[some (.ref pu),some (.ref wh),some (Vn n),some (Vn way),some (.ref pl),some (.ref dd),some (Vn st),some (Vn i),some (Vn (r+1)),none],?_,?_⟩
          · rintro σ' H'' ⟨rfl,rfl⟩
            refine ⟨_,by show n-(r+1)<n-r;omega,rfl,rfl,r+1,by omega,fun k hk'=>?_,rfl⟩
            by_cases e:k=r
            · rw [e];exact c.2
            · exact hr2 k (by omega)
          · exact ⟨_,rfl,_,_,rfl,rfl,rfl,rfl⟩
        · exact hD' _ _ ⟨rfl,r,⟨cand,hr1,hr2⟩,rfl⟩
    · rintro σ HA ⟨sxA,ts,t7,t8,eA,lA,qA,rfl⟩
      exact ⟨sxA,ts,_,_,_,eA,by rw [lA,Nat.succ_mul],qA,rfl⟩
  · rw [List.length_map]
    rintro σ H9 ⟨sx9,ts,t6,t7,t8,e9,l9,q9,rfl⟩
    obtain ⟨hP9,e9s,e9d,sx9H⟩:=stay sx9
    have hlen:ts.length≤63*63:=by rw [l9];exact Nat.mul_le_mul (by omega) hn2
    have hpos:0<ts.length:=by
      rw [l9]
      refine Nat.mul_pos ?_ (by omega)
      exact List.length_pos_of_mem (zdD.mpr ⟨Nat.le_refl 1,hn1,Nat.gcd_one_left n⟩)
    dsimp only
    refine ⟨_,rfl,pl,rfl,⟨_,SqL.of e9⟩,?_⟩
    refine zar (yaR (xs:=ts.map V.ref)) (fun k acc H'=>H'=H9∧acc=((ts.take k).map (p3 H9)).map Vn) ⟨rfl,rfl⟩ (fun i acc H' _ h=>h.1 ▸ SqL.of e9) ?_ ?_ ?_
    · rintro k acc H' hk ⟨_,rfl⟩
      rw [List.length_map,List.length_map,List.length_take];exact ycU (by omega)
    · rintro k acc z H' H'' hk ⟨rfl,rfl⟩ ⟨rfl,ez⟩
      obtain ⟨a,ea,rfl⟩:=zcR ez
      obtain ⟨f',s',r',hx,_⟩:=q9 a (List.mem_of_getElem? ea)
      refine ⟨_,rfl,a,_,_,Vn r',rfl,rfl,SqT.of hx,rfl,rfl,?_⟩
      rw [ya4 ea,List.map_append,List.map_append,show [a].map (p3 H'')=[r'] by rw [List.map_singleton,zfz hx]];rfl
    rw [List.length_map]
    rintro acc HA ⟨rfl,rfl⟩ gl' hgl'
    rw [List.take_length]
    refine ⟨gl',(ts.map (p3 HA)).map (fun n:Nat=>(n:Int)),rfl,SqL.of (by rw [mapI];exact zab),by rw [List.length_map,List.length_map];exact hpos,fun M hM1 hM2=>?_⟩
    obtain ⟨M,hM,rfl⟩:=List.mem_map.mp hM1
    obtain ⟨aM,haM,eM⟩:=List.mem_map.mp hM
    have sB:=zac hgl' (.lst ((ts.map (p3 HA)).map Vn))
    have hPB:=hP9.same sB
    have eB:=sB _ _ e9
    have qB:∀a∈ts,zcu marks n (upd HA gl' (.lst ((ts.map (p3 HA)).map Vn))) a:=fun a ha=>(q9 a ha).same sB
    have eMB:p3 (upd HA gl' (.lst ((ts.map (p3 HA)).map Vn))) aM=M:=by
      obtain ⟨f',s',r',hx,_⟩:=q9 aM haM
      rw [zfz (sB _ _ hx),←zfz hx];exact eM
    have sxB:=sx9H.trans (Same.x sB)
    dsimp only [zau]
    generalize upd HA gl' (.lst ((ts.map (p3 HA)).map Vn))=HB at sB hPB eB qB eMB sxB ⊢
    refine ⟨_,rfl,pl,rfl,⟨_,SqL.of eB⟩,?_⟩
    refine zar (yaR (xs:=ts.map V.ref)) (fun k acc H'=>H'=HB∧acc=((ts.take k).filter fun a=>decide (1<way)||decide (p3 HB a=M)).map V.ref) ⟨rfl,rfl⟩ (fun i acc H' _ h=>h.1 ▸ SqL.of eB) ?_ ?_ ?_
    · rintro k acc H' hk ⟨_,rfl⟩
      have:=List.length_filter_le (fun a=>decide (1<way)||decide (p3 HB a=M)) (ts.take k)
      rw [List.length_take] at this
      rw [List.length_map];exact ycU (by omega)
    · rintro k acc z H' H'' hk ⟨rfl,rfl⟩ ⟨rfl,ez⟩
      obtain ⟨a,ea,rfl⟩:=zcR ez
      obtain ⟨f',s',r',hx,_⟩:=qB a (List.mem_of_getElem? ea)
      have ed:decide (Vn r'=Vn M)=decide (r'=M):=decide_eq_decide.mpr ⟨fun e=>Int.ofNat.inj (V.int.inj e),fun e=>by rw [e]⟩
      refine ze1 (b1:=decide (1<way)) (b2:=decide (r'=M)) (fun Q q=>⟨_,rfl,_,_,rfl,rfl,_,rfl,?_⟩) (fun Q q=>⟨_,rfl,a,_,_,Vn r',rfl,rfl,SqT.of hx,rfl,_,rfl,rfl,_,rfl,?_⟩) ?_
      · rw [show decide ((1:Int)<(way:Int))=decide (1<way) from decide_eq_decide.mpr ⟨fun h=>by omega,fun h=>by omega⟩];exact q
      · rw [ed];exact q
      rw [ya4 ea,List.filter_append]
      refine ite2 (fun c=>?_) (fun c=>?_)
      · refine ⟨_,rfl,rfl,?_⟩
        rw [List.map_append]
        simp only [List.filter_cons,List.filter_nil,zfz hx,c,if_true]
        rfl
      · refine ⟨rfl,?_⟩
        have c':(decide (1<way)||decide (r'=M))=false:=by simpa using c
        simp only [List.filter_cons,List.filter_nil,zfz hx,c',Bool.false_eq_true,if_false,List.append_nil]
    rw [List.length_map]
    rintro acc HC ⟨rfl,rfl⟩ r3 hr3
    rw [List.take_length]
    obtain ⟨ws,hws⟩:∃ws,ws=ts.filter fun a=>decide (1<way)||decide (p3 HC a=M):=⟨_,rfl⟩
    rw [←hws]
    have hw0:0<ws.length:=by rw [hws];exact List.length_pos_of_mem (List.mem_filter.mpr ⟨haM,by rw [decide_eq_true eMB];simp⟩)
    have hw1:ws.length≤63*63:=by rw [hws];exact Nat.le_trans (List.length_filter_le _ _) hlen
    have hwq:∀a∈ws,zcu marks n HC a:=fun a ha=>by rw [hws] at ha;exact qB a (List.mem_filter.mp ha).1
    clear hws
    have sD:=zac hr3 (.lst (ws.map V.ref))
    have hPD:=hPB.same sD
    have nr3:=hPB.lt hr3
    have eD:upd HC r3 (.lst (ws.map V.ref)) r3=some (.lst (ws.map V.ref)):=zab
    have qD:∀a∈ws,zcu marks n (upd HC r3 (.lst (ws.map V.ref))) a:=fun a ha=>(hwq a ha).same sD
    have sxD:=sxB.trans (Same.x sD)
    dsimp only [zau]
    generalize upd HC r3 (.lst (ws.map V.ref))=HD at sD hPD eD qD sxD ⊢
    refine ⟨_,rfl,_,rfl,_,rfl,r3,_,rfl,.inl (SqL.of eD),?_⟩
    refine ⟨pu,g,ws.length,by rw [List.length_map];rfl,hPD,hw0,by omega,fun wi HE hwi hPE sxE=>?_⟩
    obtain ⟨f',s',r',hpr,hrow⟩:=qD _ (List.getElem_mem hwi)
    have npr:=hPD.tup_ne hpr
    have hprE:=sxE _ _ npr.1 npr.2 hpr
    have eE:=sxE _ _ nr3.1 nr3.2 eD
    have sxE':=sxD.trans sxE
    refine ⟨r3,_,_,.ref ws[wi],rfl,rfl,SqL.of eE,yaw (by rw [List.getElem?_map,List.getElem?_eq_getElem hwi];rfl),?_⟩
    refine ⟨ws[wi],_,rfl,SqT.of hprE,rfl,_,_,rfl,_,_,rfl,_,_,rfl,rfl,?_⟩
    dsimp only [zau]
    change tSeq (tIfS _ _ _) _ _ _ _
    refine ybh (fun σ H'=>Pu H' pu g∧yan pu g H H'∧∃r2,RowP marks n f' s' r2∧∃s4 s5 s9,σ=[some (.ref pu),some (.ref wh),some (Vn n),some (Vn way),s4,s5,some (Vn s'),some (Vn f'),some (Vn r2),s9]) ?_ ?_
    · rintro σ HF ⟨hPF,sxF,r2,hrow2,s4,s5,s9,rfl⟩
      refine ⟨_,rfl,_,rfl,_,rfl,szl 3,fun rr hrr=>?_⟩
      have sG:=zac hrr (.tup [Vn f',Vn s',Vn r2])
      exact q rr f' s' r2 _ zab (hPF.lt hrr) hrow2 (hPF.same sG) (sxF.trans (Same.x sG))
    · intro D' _ _ _ hD'
      refine ⟨_,rfl,_,_,rfl,rfl,by show (0:Int)<2;decide,rfl,_,rfl,?_⟩
      refine ite2 (fun c=>?_) (fun c=>?_)
      · have hrl:=hrow.le
        refine ⟨_,rfl,_,rfl,_,_,rfl,rfl,pu,g,r'+1,rfl,hPE,by omega,by omega,fun r2 HF hr2 hPF sxF=>?_⟩
        exact hD' _ _ ⟨hPF,sxE'.trans sxF,r2,⟨hrow.c,by omega,fun k hk=>hrow.all k (by omega)⟩,_,_,_,rfl⟩
      · exact hD' _ _ ⟨hPE,sxE',r',hrow,_,_,_,rfl⟩
end
end My
end
section
-- text: PL
namespace My
open PySem L2 Dg
local macro_rules | `(tactic| walk_at "rd") => `(tactic| repeat (first | refine ⟨_, rfl, ?_⟩ | refine ⟨_, _, rfl, rfl, ?_⟩))
def zbx (p m t N:Nat) (xs ys:List Nat) (i j:Nat):List Nat:=(List.range N).map fun n=>add p m (zdz p m t xs ys i n) (if i≤n∧n-i<j then mul p m t (xs.getD i 0) (ys.getD (n-i) 0) else 0)
section
variable {p m t N:Nat} (hp:2≤p) (hm:1≤m)
include hp hm
theorem zcU (xs ys:List Nat) (i j:Nat):(zbx p m t N xs ys i j).length=N:=by simp [zbx]
theorem yeS (xs ys:List Nat):zbx p m t N xs ys 0 0=List.replicate N 0:=by
  unfold zbx
  refine List.ext_getElem (by simp) fun n h1 h2=>?_
  simp only [List.getElem_map,List.getElem_range,List.getElem_replicate]
  rw [if_neg (by omega)]
  exact add_zero hp hm (zbh hp hm)
theorem zeR (xs ys:List Nat) (i:Nat):zbx p m t N xs ys i ys.length=zbx p m t N xs ys (i+1) 0:=by
  unfold zbx
  refine List.map_congr_left fun n _=>?_
  rw [if_neg (show ¬ (i+1≤n∧n-(i+1)<0) by omega),add_zero hp hm (ycw hp hm _ _ _ _)]
  show _=add p m (zdz p m t xs ys i n) _
  congr 1
  dsimp only
  by_cases h:i≤n
  · rw [if_pos h]
    by_cases h2:n-i<ys.length
    · rw [if_pos ⟨h,h2⟩]
    · rw [if_neg (by omega),ya6 (xs:=ys) (by omega),mul_zero hp hm]
  · rw [if_neg (by omega),if_neg h]
theorem yfA (xs ys:List Nat):zbx p m t N xs ys xs.length 0=(List.range N).map (conv p m t xs ys):=by
  unfold zbx
  refine List.map_congr_left fun n _=>?_
  rw [if_neg (by omega),add_zero hp hm (ycw hp hm _ _ _ _),zfj hp hm]
theorem yfa {xs ys:List Nat} {i j:Nat} (hi:i+j<N):(zbx p m t N xs ys i j).getD (i+j) 0=zdz p m t xs ys i (i+j):=by
  unfold zbx
  rw [List.getD_eq_getElem?_getD,List.getElem?_map,List.getElem?_range (by omega)]
  show add p m _ (if _ then _ else 0)=_
  rw [if_neg (by omega),add_zero hp hm (ycw hp hm _ _ _ _)]
theorem zfk {xs ys:List Nat} {i j:Nat} (hi:i+j<N):(zbx p m t N xs ys i j).set (i+j) (add p m (zdz p m t xs ys i (i+j)) (mul p m t (xs.getD i 0) (ys.getD j 0)))=zbx p m t N xs ys i (j+1):=by
  refine List.ext_getElem (by simp [zcU hp hm]) fun n h1 h2=>?_
  rw [List.getElem_set]
  by_cases e:i+j=n
  · subst e
    rw [if_pos rfl]
    simp only [zbx,List.getElem_map,List.getElem_range]
    rw [if_pos (by omega),show i+j-i=j by omega]
  · rw [if_neg e]
    simp only [zbx,List.getElem_map,List.getElem_range]
    by_cases h:i≤n∧n-i<j
    · rw [if_pos h,if_pos (by omega)]
    · rw [if_neg h,if_neg (by omega)]
end
def lets (p m t few:Nat):List Nat:=(List.range (p^m)).filter fun x=>decide (pw p m t x (p^few)=x)
theorem zbL {p m t few:Nat}:∀x∈lets p m t few,x<p^m:=fun x hx=>List.mem_range.mp (List.mem_filter.mp hx).1
theorem zem (p m t few:Nat):(lets p m t few).length≤p^m:=Nat.le_trans (List.length_filter_le _ _) (by rw [List.length_range];exact Nat.le_refl _)
theorem zf4 {p m t few:Nat} (G:Good p m t):0<(lets p m t few).length:=by
  refine List.length_pos_of_mem (a:=1) (List.mem_filter.mpr ⟨List.mem_range.mpr (zaM G.hp G.hm),decide_eq_true (zcb G.hp G.hm _)⟩)
section
variable {P:Program} {w:World} {K:PySem.W.Frag} {mg:Str→Option Value} {base:Heap} {f:Addr} {fd:FuncData}
def yb7:Sp:=fun vs H Q _=>∃(tb fa pa la:Addr) (p m t b few:Nat),vs=[.ref tb,Vn few]∧Tab H tb fa pa la p m t b∧few≤6∧∀r H',Same H H'→H r=none→H' r=some (.lst ((lets p m t few).map Vn))→Q (.ref r) H'
theorem ybS:yaj ["_law_table_here","_law_few","_law_q"] ["_law_table_here","_law_few"] (zad zaD):=⟨rfl,rfl,rfl,by decide +kernel,rfl,by decide +kernel,by decide +kernel⟩
theorem yd1 (B:Bl mg) (h__law_raised:Has P w K mg base 1 "_law_raised" ["_law_one","_law_many"] zap) (h__law_power:Has P w K mg base 1 "_law_power" ["_law_table_here","_law_one","_law_many"] ycv) (F:Fun K "_law_letters" "_law_letters" zaD f fd):FnOk P w K mg base CX0 2 f fd ["_law_table_here","_law_few"] yb7:=by
  refine F.ok ybS (fun vs H Q E h=>?_) (fun cdv A outer s H vs Q E hr h=>?_)
  · obtain ⟨tb,fa,pa,la,p,m,t,b,few,rfl,_⟩:=h;rfl
  obtain ⟨tb,fa,pa,la,p,m,t,b,few,rfl,T,hf,q⟩:=h
  have G:=T.good
  have hp:=G.hp
  have hm:=G.hm
  have hQ:=G.hq
  refine ⟨_,(yab (@zag _ _ 2 _ _ _ _ ybS.nd rfl (Or.inr rfl) (yad h__law_raised hr (by decide) rfl (zaa (@yaz _ _ _ _ _ _ (zbn hr) (pv 0) yaF (fun _ _=>rfl)) (zaa (pv 1) yaa (by rfl)) (by rfl)) (by decide) (by rfl) (by rfl)) (by rfl) (by trivial)) (zae (@zal _ _ _ _ (@yaM _ _ _ _ _ _ _ ["_law_one"] ["_law_table_here","_law_q"] [0,2] _ _ _ _ (id (α:=CSc ["_law_table_here","_law_few","_law_q"] (zad zaD) ["_law_one"] ["_law_table_here","_law_q"] [0,2] _) ⟨by rfl,by decide +kernel,by decide +kernel,by decide +kernel,by decide +kernel,by rfl,by decide +kernel⟩) rfl (@yau _ _ _ _ _ _ rfl (B "range" (by decide)) (zaa (@yaz _ _ _ _ _ _ (zbn hr) (pv 0) yaF (fun _ _=>rfl)) yaa (by rfl)) (by rfl)) (fun cl C fp s H=>(@yae _ _ 0 _ (by show List.Nodup (["_law_one","_law_table_here","_law_q"]:List Str);decide +kernel) rfl (Or.inl rfl) (by trivial))) (fun _ _ _ _ _=>(@ybd _ _ _ (@zai _ _ _ _ _ _ _ _ zbr (yad h__law_power hr (by decide) rfl (zaa (pv 1) (zaa (pv 0) (zaa (pv 2) yaa (by rfl)) (by rfl)) (by rfl)) (by decide) (by rfl) (by rfl)) (pv 0) (yal _)))) (fun _ _ _ _ _=>(pv 0)) (by intro _;rfl))))),?_⟩
  refine ⟨_,rfl,tb,_,rfl,T.get yfe,_,rfl,p,few,rfl,p_le hp hm hQ,by omega,?_⟩
  dsimp only [zau]
  refine ⟨_,rfl,tb,_,rfl,T.get zb0,((p^m:Nat):Int),rfl,by omega,by omega,?_⟩
  refine zar zaK (fun k acc H'=>H'=H∧acc=(((List.range k).filter fun x=>decide (pw p m t x (p^few)=x)).map Vn)) ⟨rfl,rfl⟩ (fun _ _ _ _ _=>trivial) ?_ ?_ ?_
  · rintro k acc H' hk ⟨_,rfl⟩
    have:=List.length_filter_le (fun x=>decide (pw p m t x (p^few)=x)) (List.range k)
    rw [List.length_range] at this
    rw [List.length_map];exact zam (by omega)
  · rintro k acc x H' H'' hk ⟨rfl,rfl⟩ ⟨rfl,rfl⟩
    have hk2:k<p^m:=by omega
    refine ⟨_,rfl,_,rfl,_,rfl,tb,fa,pa,la,p,m,t,b,k,((p^few:Nat):Int),?_,T,hk2,?_⟩
    · rw [show (0+(k:Int))=(k:Int) by omega];rfl
    rw [zcI G hk2]
    refine ⟨_,rfl,rfl,_,rfl,?_⟩
    have ed:decide (Vn (pw p m t k (p^few))=V.int (0+(k:Int)))=decide (pw p m t k (p^few)=k):=by
      rw [show (0+(k:Int))=(k:Int) by omega]
      exact decide_eq_decide.mpr ⟨fun e=>Int.ofNat.inj (V.int.inj e),fun e=>by rw [e]⟩
    rw [ed,List.range_succ,List.filter_append]
    refine ite2 (fun c=>?_) (fun c=>?_)
    · have c':pw p m t k (p^few)=k:=of_decide_eq_true c
      refine ⟨_,rfl,rfl,?_⟩
      rw [List.map_append,show V.int (0+(k:Int))=Vn k from ybN (by omega)]
      simp [c']
    · have c':¬ pw p m t k (p^few)=k:=fun h=>c (decide_eq_true h)
      refine ⟨rfl,?_⟩
      simp [c']
  · rintro acc H1 ⟨rfl,rfl⟩ D hD
    rw [Int.toNat_natCast]
    exact q D _ (zac hD _) hD zab
def mkS (p m t r:Nat) (row:List Nat):List Nat:=(List.range (row.length+1)).map fun i=>sub p m ((0::row).getD i 0) (mul p m t r ((row++[0]).getD i 0))
def mkL (p m t root:Nat) (marks:List Nat):List Nat:=marks.foldl (fun row k=>mkS p m t (pw p m t root k) row) [1]
theorem zcE (p m t r:Nat) (row:List Nat):(mkS p m t r row).length=row.length+1:=by simp [mkS]
theorem zfu (p m t root:Nat):∀(marks row:List Nat),(marks.foldl (fun row k=>mkS p m t (pw p m t root k) row) row).length=row.length+marks.length
  | [],row=>rfl
  | k::marks,row=>by rw [List.foldl_cons,zfu p m t root marks,zcE,List.length_cons];omega
theorem yed (p m t root:Nat) (marks:List Nat):(mkL p m t root marks).length=marks.length+1:=by unfold mkL;rw [zfu];simp;omega
theorem zfc {p m t r:Nat} (G:Good p m t) {row:List Nat}:∀x∈mkS p m t r row,x<p^m:=fun x hx=>by
  obtain ⟨i,_,rfl⟩:=List.mem_map.mp hx
  exact yeB G.hp G.hm _ _
theorem zgw {p m t root:Nat} (G:Good p m t):∀(marks row:List Nat),(∀x∈row,x<p^m)→∀x∈marks.foldl (fun row k=>mkS p m t (pw p m t root k) row) row,x<p^m
  | [],row,h=>h
  | k::marks,row,h=>by rw [List.foldl_cons];exact zgw G marks _ (zfc G)
theorem zeC {p m t root:Nat} (G:Good p m t) (marks:List Nat):∀x∈mkL p m t root marks,x<p^m:=zgw G marks [1] fun x hx=>by rw [List.mem_singleton.mp hx];exact zaM G.hp G.hm
theorem zgo {p m t root:Nat} {marks:List Nat} {i k:Nat} (h:marks[i]?=some k):mkL p m t root (marks.take (i+1))=mkS p m t (pw p m t root k) (mkL p m t root (marks.take i)):=by
  unfold mkL;rw [ya4 h,List.foldl_append];rfl
def zdT:Sp:=fun vs H Q _=>∃(tb fa pa la wh mk:Addr) (p m t b few root:Nat) (marks:List Nat),vs=[.ref tb,.ref wh]∧Tab H tb fa pa la p m t b∧WhAt H wh fa mk few root marks∧root<p^m∧marks.length≤64∧∀r H',Same H H'→H r=none→H' r=some (.lst ((mkL p m t root marks).map Vn))→Q (.ref r) H'
theorem za7:yaj ["_law_table_here","_law_wheel_here","_law_row","_law_mark","_law_root"] ["_law_table_here","_law_wheel_here"] (zad yaQ):=⟨rfl,rfl,rfl,by decide +kernel,rfl,by decide +kernel,by decide +kernel⟩
theorem ze3 (B:Bl mg) (h__law_power:Has P w K mg base 1 "_law_power" ["_law_table_here","_law_one","_law_many"] ycv) (h__law_minus:Has P w K mg base 2 "_law_minus" ["_law_table_here","_law_one","_law_other"] ydJ) (h__law_times:Has P w K mg base 1 "_law_times" ["_law_table_here","_law_one","_law_other"] ybF) (F:Fun K "_law_maker" "_law_maker" yaQ f fd):FnOk P w K mg base CX0 3 f fd ["_law_table_here","_law_wheel_here"] zdT:=by
  refine F.ok za7 (fun vs H Q E h=>?_) (fun cdv A outer s H vs Q E hr h=>?_)
  · obtain ⟨tb,fa,pa,la,wh,mk,p,m,t,b,few,root,marks,rfl,_⟩:=h;rfl
  obtain ⟨tb,fa,pa,la,wh,mk,p,m,t,b,few,root,marks,rfl,T,hW,hr',hml,q⟩:=h
  have G:=T.good
  have hp:=G.hp
  have hm:=G.hm
  refine ⟨_,(yab (@zag _ _ 2 _ _ _ _ za7.nd rfl (Or.inl rfl) (@zaE _ _ _ _ (zaa yac yaa (by rfl))) (by rfl) (by trivial)) (yab (@yaD _ _ _ _ _ _ _ _ PassesOwn.never rfl (@zcA _ _ _ _ (zan yas (pv 1) yac (fun _ _=>rfl))) (@yae _ _ 3 _ za7.nd rfl (Or.inl rfl) (by trivial)) (yab (@zag _ _ 4 _ _ _ _ za7.nd rfl (Or.inr rfl) (yad h__law_power hr (by decide) rfl (zaa (pv 0) (zaa (zan yas (pv 1) yac (fun _ _=>rfl)) (zaa (pv 3) yaa (by rfl)) (by rfl)) (by rfl)) (by decide) (by rfl) (by rfl)) (by rfl) (by trivial)) (zae (@zbA _ 2 _ _ _ _ _ _ _ _ _ ["_law_one","_law_other"] ["_law_table_here","_law_root"] [0,4] _ _ _ _ za7.nd rfl (Or.inl rfl) (id (α:=CSc ["_law_table_here","_law_wheel_here","_law_row","_law_mark","_law_root"] (zad yaQ) ["_law_one","_law_other"] ["_law_table_here","_law_root"] [0,4] _) ⟨by rfl,by decide +kernel,by decide +kernel,by decide +kernel,by decide +kernel,by rfl,by decide +kernel⟩) rfl (@zg1 _ _ _ _ _ _ _ _ _ rfl (B "zip" (by decide)) (zaa (yaf zcB (@zaE _ _ _ _ (zaa yac yaa (by rfl))) (pv 2)) (zaa (yaf zcB (pv 2) (@zaE _ _ _ _ (zaa yac yaa (by rfl)))) yaa (by rfl)) (by rfl)) (by rfl) (by rfl)) (fun cl C fp s H=>(@zfr _ _ _ _ 2 _ K rfl rfl (zah (@yae _ _ 0 _ (by show List.Nodup (["_law_one","_law_other","_law_table_here","_law_root"]:List Str);decide +kernel) rfl (Or.inl rfl) (by trivial)) (zah (@yae _ _ 1 _ (by show List.Nodup (["_law_one","_law_other","_law_table_here","_law_root"]:List Str);decide +kernel) rfl (Or.inl rfl) (by trivial)) yaH (by rfl)) (by rfl)) (by rfl) (by rfl))) (fun _ _ _ _ _=>yaL) (fun _ _ _ _ _=>(yad h__law_minus hr (by decide) rfl (zaa (pv 2) (zaa (pv 0) (zaa (yad h__law_times hr (by decide) rfl (zaa (pv 2) (zaa (pv 3) (zaa (pv 1) yaa (by rfl)) (by rfl)) (by rfl)) (by decide) (by rfl) (by rfl)) yaa (by rfl)) (by rfl)) (by rfl)) (by decide) (by rfl) (by rfl))) (by rfl) (by intro _;rfl) (by trivial)))) (by intro _;rfl)) (zae (@zal _ _ _ _ (pv 2))))),?_⟩
  refine ⟨szl 1,fun r0 hr0=>?_⟩
  have s1:=zac hr0 (.lst [.int 1])
  have e1:upd H r0 (.lst [.int 1]) r0=some (.lst ((mkL p m t root []).map Vn)):=zab
  dsimp only [zau]
  generalize upd H r0 (.lst [.int 1])=H1 at s1 e1 ⊢
  have hW1:=hW.same s1
  refine ⟨_,rfl,wh,_,_,.ref mk,rfl,rfl,SqT.of hW1.w,rfl,mk,rfl,⟨_,SqT.of hW1.k⟩,?_⟩
  refine zbb (ybL (xs:=marks.map Vn)) (fun i σ H'=>Same H H'∧∃(rr:Addr) (s3 s4:Option V),H rr=none∧H' rr=some (.lst ((mkL p m t root (marks.take i)).map Vn))∧σ=[some (.ref tb),some (.ref wh),some (.ref rr),s3,s4]) ⟨s1,r0,none,none,hr0,e1,rfl⟩ (fun i σ H' _ h=>SqT.of (h.1 _ _ hW.k)) ?_ ?_
  · rintro i z σ H2 H2' hi ⟨s2,rr,s3,s4,nrr,e2,rfl⟩ ⟨rfl,ez⟩
    rw [List.length_map] at hi
    have hk:marks[i]?=some (marks.getD i 0):=by rw [List.getElem?_eq_getElem hi];simp [List.getD,hi]
    rw [zat hi] at ez
    cases ez
    have T2:=T.same s2
    refine ⟨_,rfl,_,rfl,wh,_,_,Vn root,rfl,rfl,SqT.of (s2 _ _ hW.w),rfl,_,rfl,tb,fa,pa,la,p,m,t,b,root,(((marks.getD i 0):Nat):Int),rfl,T2,hr',?_⟩
    rw [zcI G hr']
    dsimp only [zau]
    have hrow:=zeC (root:=root) G (marks.take i)
    have hrl:(mkL p m t root (marks.take i)).length≤65:=by rw [yed,List.length_take];omega
    have etk:=zgo (p:=p) (m:=m) (t:=t) (root:=root) hk
    rw [etk]
    generalize mkL p m t root (marks.take i)=row at e2 hrow hrl ⊢
    have hpr:=zbo (t:=t) hp hm root (marks.getD i 0)
    generalize pw p m t root (marks.getD i 0)=rt at hpr ⊢
    have hpos:=zbh hp hm
    refine ⟨szl 1,fun z1 hz1=>?_⟩
    have t1:=zac hz1 (.lst [.int 0])
    refine ⟨_,rfl,z1,rr,_,_,rfl,rfl,zab,t1 _ _ e2,by rw [List.length_map];exact szl _ (by simp;omega),fun l1 hl1=>?_⟩
    have t2:=zac hl1 (.lst ([.int 0]++row.map Vn))
    have f2:upd (upd H2' z1 (.lst [.int 0])) l1 (.lst ([.int 0]++row.map Vn)) l1=some (.lst ((0::row).map Vn)):=zab
    have e2':=t2 _ _ (t1 _ _ e2)
    have s4':=s2.trans (t1.trans t2)
    generalize upd (upd H2' z1 (.lst [.int 0])) l1 (.lst ([.int 0]++row.map Vn))=H3 at f2 e2' s4' ⊢
    refine ⟨_,rfl,szl 1,fun z2 hz2=>?_⟩
    have t3:=zac hz2 (.lst [.int 0])
    refine ⟨rr,z2,_,_,rfl,rfl,t3 _ _ e2',zab,by rw [List.length_map];exact szl _ (by simp;omega),fun l2 hl2=>?_⟩
    have t4:=zac hl2 (.lst (row.map Vn++[.int 0]))
    have f3:upd (upd H3 z2 (.lst [.int 0])) l2 (.lst (row.map Vn++[.int 0])) l2=some (.lst ((row++[0]).map Vn)):=by rw [zab,List.map_append];rfl
    have f2':=t4 _ _ (t3 _ _ f2)
    have s5:=s4'.trans (t3.trans t4)
    generalize upd (upd H3 z2 (.lst [.int 0])) l2 (.lst (row.map Vn++[.int 0]))=H4 at f3 f2' s5 ⊢
    have T4:=T.same s5
    have q1:∀x∈(0::row),x<p^m:=fun x hx=>by
      rcases List.mem_cons.mp hx with rfl|h
      · exact hpos
      · exact hrow x h
    have q2:∀x∈(row++[0]),x<p^m:=fun x hx=>by
      rcases List.mem_append.mp hx with h|h
      · exact hrow x h
      · rw [List.mem_singleton.mp h];exact hpos
    refine ⟨false,false,l1,l2,rfl,⟨_,SqL.of f2'⟩,⟨_,SqL.of f3⟩,?_⟩
    refine zar (yga (b1:=false) (b2:=false) (xs:=(0::row).map Vn) (ys:=(row++[0]).map Vn)) (fun k acc H'=>Same H4 H'∧acc=((List.range k).map fun i=>sub p m ((0::row).getD i 0) (mul p m t rt ((row++[0]).getD i 0))).map Vn) ⟨Same.refl _,rfl⟩ (fun i acc H' _ h=>⟨SqL.of (h.1 _ _ f2'),SqL.of (h.1 _ _ f3)⟩) ?_ ?_ ?_
    · rintro k acc H' hk' ⟨_,rfl⟩
      rw [List.length_map,List.length_map] at hk'
      rw [List.length_map,List.length_map,List.length_range]
      simp only [List.length_cons,List.length_append] at hk'
      exact zam (by omega)
    · rintro k acc z H5 H6 hk' ⟨s6,rfl⟩ ⟨T',u,v,rfl,eu,ev,hT',rfl⟩
      rw [List.length_map,List.length_map] at hk'
      rw [zat (by omega)] at eu ev
      cases eu;cases ev
      have s7:=s6.trans (zac hT' (.tup [Vn ((0::row).getD k 0),Vn ((row++[0]).getD k 0)]))
      refine ⟨T',_,rfl,SqT.of zab,rfl,_,_,rfl,_,_,rfl,rfl,?_⟩
      refine ⟨_,rfl,_,rfl,_,rfl,_,rfl,_,rfl,tb,fa,pa,la,p,m,t,b,rt,(row++[0]).getD k 0,rfl,T4.same s7,hpr,zbi q2 (by omega),?_⟩
      refine ⟨tb,fa,pa,la,p,m,t,b,(0::row).getD k 0,_,rfl,T4.same s7,zbi q1 (by omega),zaN hp hm _ _,?_⟩
      refine ⟨s7,?_⟩
      rw [List.range_succ,List.map_append,List.map_append];rfl
    · have hmin:min (0::row).length (row++[0]).length=row.length+1:=by simp
      rw [List.length_map,List.length_map,hmin]
      rintro acc H5 ⟨s6,rfl⟩ l3 hl3
      have s7:=s6.trans (zac hl3 (.lst ((mkS p m t rt row).map Vn)))
      exact ⟨s5.trans s7,l3,_,_,(s5.trans s6).free hl3,zab,rfl⟩
  · rw [List.length_map]
    rintro σ H2 ⟨s2,rr,s3,s4,nrr,e2,rfl⟩
    rw [List.take_length] at e2
    exact ⟨_,rfl,q rr _ s2 nrr e2⟩
def zdP (K:PySem.W.Frag):Sp:=fun vs H Q _=>∃(tb fa pa la wh mk gv:Addr) (p m t b few root n:Nat) (marks gs:List Nat),vs=[.ref tb,.ref wh,Vn n,.ref gv]∧Tab H tb fa pa la p m t b∧WhAt H wh fa mk few root marks∧root<p^m∧SqL K H gv (gs.map Vn)∧gs.length+marks.length≤n∧n≤64∧(∀x∈gs,x<p^m)∧
  ∀r H',Same H H'→H r=none→H' r=some (.tup (((List.range n).map (conv p m t gs (mkL p m t root marks))).map Vn))→Q (.ref r) H'
theorem zaA:yaj ["_law_table_here","_law_wheel_here","_law_n","_law_given","_law_found","_law_part","_law_at","_law_letter","_law_k","_law_thing"] ["_law_table_here","_law_wheel_here","_law_n","_law_given"] (zad zaF):=⟨rfl,rfl,rfl,by decide +kernel,rfl,by decide +kernel,by decide +kernel⟩
theorem ye1 (B:Bl mg) (h__law_maker:Has P w K mg base 3 "_law_maker" ["_law_table_here","_law_wheel_here"] zdT) (h__law_plus:Has P w K mg base 1 "_law_plus" ["_law_table_here","_law_one","_law_other"] ycx) (h__law_times:Has P w K mg base 1 "_law_times" ["_law_table_here","_law_one","_law_other"] ybF) (F:Fun K "_law_multiple" "_law_multiple" zaF f fd):FnOk P w K mg base CX0 4 f fd ["_law_table_here","_law_wheel_here","_law_n","_law_given"] (zdP K):=by
  refine F.ok zaA (fun vs H Q E h=>?_) (fun cdv A outer s H vs Q E hr h=>?_)
  · obtain ⟨tb,fa,pa,la,wh,mk,gv,p,m,t,b,few,root,n,marks,gs,rfl,_⟩:=h;rfl
  obtain ⟨tb,fa,pa,la,wh,mk,gv,p,m,t,b,few,root,n,marks,gs,rfl,T,hW,hrq,hgv,hl,hn,hgs,q⟩:=h
  have G:=T.good
  have hp:=G.hp
  have hm:=G.hm
  refine ⟨_,(yab (@ybB _ _ 4 5 _ _ _ _ _ _ _ _ _ _ _ rfl zaA.nd rfl rfl (by decide) rfl rfl (zaa (yaf zgq (@zaE _ _ _ _ (zaa yac yaa (by rfl))) (pv 2)) (zaa (yad h__law_maker hr (by decide) rfl (zaa (pv 0) (zaa (pv 1) yaa (by rfl)) (by rfl)) (by decide) (by rfl) (by rfl)) yaa (by rfl)) (by rfl)) rfl (by rfl)) (yab (@yaD _ _ _ _ _ _ _ _ PassesOwn.never rfl (@zco _ _ _ _ _ _ _ _ rfl (B "enumerate" (by decide)) (zaa (pv 3) yaa (by rfl)) (by rfl)) (@ya8 _ _ _ _ _ _ rfl (zah (@yae _ _ 6 _ zaA.nd rfl (Or.inl rfl) (by trivial)) (zah (@yae _ _ 7 _ zaA.nd rfl (Or.inl rfl) (by trivial)) yaH (by rfl)) (by rfl)) (by rfl) (by rfl)) (zae (@yaD _ _ _ _ _ _ _ _ PassesOwn.never rfl (@zco _ _ _ _ _ _ _ _ rfl (B "enumerate" (by decide)) (zaa (pv 5) yaa (by rfl)) (by rfl)) (@ya8 _ _ _ _ _ _ rfl (zah (@yae _ _ 8 _ zaA.nd rfl (Or.inl rfl) (by trivial)) (zah (@yae _ _ 9 _ zaA.nd rfl (Or.inl rfl) (by trivial)) yaH (by rfl)) (by rfl)) (by rfl) (by rfl)) (zae (@za6 _ _ _ _ _ _ (yad h__law_plus hr (by decide) rfl (zaa (pv 0) (zaa (zan zaq (pv 4) (yaf yar (pv 6) (pv 8)) (fun _ _=>rfl)) (zaa (yad h__law_times hr (by decide) rfl (zaa (pv 0) (zaa (pv 7) (zaa (pv 9) yaa (by rfl)) (by rfl)) (by rfl)) (by decide) (by rfl) (by rfl)) yaa (by rfl)) (by rfl)) (by rfl)) (by decide) (by rfl) (by rfl)) (@zcH _ _ _ _ _ _ _ (pv 4) (yaf yar (pv 6) (pv 8)) ybM (by intro _;rfl)) (by rfl) (by rfl) (by rfl))) (by intro _;rfl))) (by intro _;rfl)) (zae (@zal _ _ _ _ (yaq zaI rfl (B "tuple" (by decide)) yaA (zaa (pv 4) yaa (by rfl)) (by decide) (by decide) (by rfl) (by rfl)))))),?_⟩
  refine ⟨szl 1,fun z hz=>?_⟩
  have s1:=zac hz (.lst [.int 0])
  refine ⟨_,rfl,z,_,_,rfl,rfl,zab,by omega,by omega,by rw [Int.toNat_natCast];exact szl _ (by simp;omega),fun l hl'=>?_⟩
  rw [Int.toNat_natCast,zfT,←yeS (t:=t) (N:=n) hp hm gs (mkL p m t root marks)]
  have nl:=s1.free hl'
  have s2:=s1.trans (zac hl' (.lst ((zbx p m t n gs (mkL p m t root marks) 0 0).map Vn)))
  have e2:upd (upd H z (.lst [.int 0])) l (.lst ((zbx p m t n gs (mkL p m t root marks) 0 0).map Vn)) l=some (.lst ((zbx p m t n gs (mkL p m t root marks) 0 0).map Vn)):=zab
  generalize upd (upd H z (.lst [.int 0])) l (.lst ((zbx p m t n gs (mkL p m t root marks) 0 0).map Vn))=H2 at s2 e2 ⊢
  refine ⟨_,rfl,_,rfl,tb,fa,pa,la,wh,mk,p,m,t,b,few,root,marks,rfl,T.same s2,hW.same s2,hrq,by omega,fun pt H3 s3 npt ept=>?_⟩
  refine ⟨_,_,rfl,?_⟩
  have hpl:=yed p m t root marks
  have hpq:=zeC (root:=root) G marks
  generalize mkL p m t root marks=ps at *
  have s23:=s2.trans s3
  have npl:pt≠l:=fun e=>by rw [e] at npt;rw [npt] at e2;cases e2
  have ng:∀ {H':Hp},yan l l H3 H'→Same H H'∧H' pt=some (.lst (ps.map Vn)):=fun {H'} sx=>⟨fun b' o e=>sx b' o (zaf e nl) (zaf e nl) (s23 _ _ e),sx _ _ npl npl ept⟩
  refine ⟨_,rfl,false,gv,rfl,⟨_,s23.seq hgv⟩,?_⟩
  refine zbb (zbC (b:=false) (xs:=gs.map Vn)) (fun i σ H'=>yan l l H3 H'∧H' l=some (.lst ((zbx p m t n gs ps i 0).map Vn))∧∃s6 s7 s8 s9,σ=[some (.ref tb),some (.ref wh),some (Vn n),some (.ref gv),some (.ref l),some (.ref pt),s6,s7,s8,s9]) ⟨yan.refl,s3 _ _ e2,none,none,none,none,rfl⟩ (fun i σ H' _ h=>(ng h.1).1.seq hgv) ?_ ?_
  · rintro i z' σ H4 H4' hi ⟨sx,el,s6,s7,s8,s9,rfl⟩ ⟨T',u,rfl,eu,hT',rfl⟩
    rw [List.length_map] at hi
    rw [zat hi] at eu
    cases eu
    have sT:=zac hT' (.tup [.int (i:Int),Vn (gs.getD i 0)])
    refine ⟨T',_,rfl,SqT.of zab,rfl,_,_,rfl,_,_,rfl,rfl,?_⟩
    have sx5:=sx.trans (Same.x sT)
    have el5:=sT _ _ el
    generalize upd H4 T' (.tup [.int (i:Int),Vn (gs.getD i 0)])=H5 at sT sx5 el5 ⊢
    refine ⟨_,rfl,false,pt,rfl,⟨_,SqL.of (ng sx5).2⟩,?_⟩
    refine zbb (zbC (b:=false) (xs:=ps.map Vn)) (fun j σ H'=>yan l l H3 H'∧H' l=some (.lst ((zbx p m t n gs ps i j).map Vn))∧∃s8 s9,σ=[some (.ref tb),some (.ref wh),some (Vn n),some (.ref gv),some (.ref l),some (.ref pt),some (Vn i),some (Vn (gs.getD i 0)),s8,s9]) ⟨sx5,el5,_,_,rfl⟩ (fun j σ H' _ h=>SqL.of (ng h.1).2) ?_ ?_
    · rintro j z' σ H6 H6' hj ⟨sx6,el6,s8,s9,rfl⟩ ⟨T2,u,rfl,eu,hT2,rfl⟩
      rw [List.length_map] at hj
      rw [zat hj] at eu
      cases eu
      have sT2:=zac hT2 (.tup [.int (j:Int),Vn (ps.getD j 0)])
      have sx7:=sx6.trans (Same.x sT2)
      have el7:=sT2 _ _ el6
      have hij:i+j<n:=by omega
      refine ⟨T2,_,rfl,SqT.of zab,rfl,_,_,rfl,_,_,rfl,rfl,?_⟩
      generalize upd H6 T2 (.tup [.int (j:Int),Vn (ps.getD j 0)])=H7 at sT2 sx7 el7 ⊢
      have T7:=T.same (ng sx7).1
      refine ⟨_,rfl,_,rfl,_,rfl,_,rfl,_,_,rfl,rfl,?_⟩
      refine ⟨l,_,((i+j:Nat):Int),Vn (zdz p m t gs ps i (i+j)),rfl,rfl,SqL.of el7,?_,?_⟩
      · refine yaw ?_
        rw [zat (by rw [zcU hp hm];omega),yfa hp hm hij]
      refine ⟨_,rfl,_,rfl,_,rfl,tb,fa,pa,la,p,m,t,b,gs.getD i 0,ps.getD j 0,rfl,T7,zbi hgs hi,zbi hpq hj,?_⟩
      refine ⟨tb,fa,pa,la,p,m,t,b,_,_,rfl,T7,ycw hp hm _ _ _ _,zaN hp hm _ _,?_⟩
      refine ⟨_,rfl,_,rfl,_,rfl,_,_,rfl,rfl,?_⟩
      refine ⟨l,_,((i+j:Nat):Int),i+j,rfl,rfl,el7,?_,?_⟩
      · rw [List.length_map,zcU hp hm];exact ydM (by omega)
      · rw [zd4,zfk hp hm hij]
        exact ⟨ydS sx7,zab,_,_,rfl⟩
    · rw [List.length_map]
      rintro σ H6 ⟨sx6,el6,s8,s9,rfl⟩
      rw [zeR hp hm] at el6
      exact ⟨sx6,el6,_,_,_,_,rfl⟩
  · rw [List.length_map]
    rintro σ H4 ⟨sx,el,s6,s7,s8,s9,rfl⟩
    rw [yfA hp hm] at el
    refine ⟨_,rfl,l,_,rfl,.inl ⟨SqL.of el,fun r hr=>?_⟩⟩
    exact q r _ ((ng sx).1.trans (zac hr _)) ((ng sx).1.free hr) zab
end
end My
end
section
-- text: PM
namespace My
open PySem L2 Dg
local macro_rules | `(tactic| walk_at "rd") => `(tactic| repeat (first | refine ⟨_, rfl, ?_⟩ | refine ⟨_, _, rfl, rfl, ?_⟩))
section
variable {P:Program} {w:World} {K:PySem.W.Frag} {mg:Str→Option Value} {base:Heap} {f:Addr} {fd:FuncData}
def ydB:Sp:=fun vs H Q _=>∃(pu g tb fa pa la wh mk:Addr) (p m t b few root n:Nat) (marks:List Nat),vs=[.ref pu,.ref tb,.ref wh,Vn n]∧Pu H pu g∧Tab H tb fa pa la p m t b∧yeQ pu g tb fa pa la∧WhAt H wh fa mk few root marks∧(wh≠pu∧wh≠g)∧(mk≠pu∧mk≠g)∧few≤6∧root<p^m∧marks.length≤n∧n≤64∧
  ∀(r:Addr) (gs:List Nat) H',H' r=some (.tup (((List.range n).map (conv p m t gs (mkL p m t root marks))).map Vn))→(r≠pu∧r≠g)→gs.length=n-marks.length→(∀x∈gs,x∈lets p m t few)→Pu H' pu g→yan pu g H H'→Q (.ref r) H'
theorem za5:yaj ["_law_purse_here","_law_table_here","_law_wheel_here","_law_n","_law_some","_law_given"] ["_law_purse_here","_law_table_here","_law_wheel_here","_law_n"] (zad yat):=⟨rfl,rfl,rfl,by decide +kernel,rfl,by decide +kernel,by decide +kernel⟩
theorem yfH (B:Bl mg) (h__law_pick:Has P w K mg base 1 "_law_pick" ["_law_purse_here","_law_many"] zbN) (h__law_letters:Has P w K mg base 2 "_law_letters" ["_law_table_here","_law_few"] yb7) (h__law_multiple:Has P w K mg base 4 "_law_multiple" ["_law_table_here","_law_wheel_here","_law_n","_law_given"] (zdP K)) (F:Fun K "_law_drawn_word" "_law_drawn_word" yat f fd):FnOk P w K mg base CX0 5 f fd ["_law_purse_here","_law_table_here","_law_wheel_here","_law_n"] ydB:=by
  refine F.ok za5 (fun vs H Q E h=>?_) (fun cdv A outer s H vs Q E hr h=>?_)
  · obtain ⟨pu,g,tb,fa,pa,la,wh,mk,p,m,t,b,few,root,n,marks,rfl,_⟩:=h;rfl
  obtain ⟨pu,g,tb,fa,pa,la,wh,mk,p,m,t,b,few,root,n,marks,rfl,hP,T,ap,hW,nwh,nmk,hf6,hrq,hml,hn,q⟩:=h
  have G:=T.good
  have hQ:=G.hq
  refine ⟨_,(yab (@zag _ _ 4 _ _ _ _ za5.nd rfl (Or.inr rfl) (yad h__law_letters hr (by decide) rfl (zaa (pv 1) (zaa (zan yas (pv 2) yac (fun _ _=>rfl)) yaa (by rfl)) (by rfl)) (by decide) (by rfl) (by rfl)) (by rfl) (by trivial)) (yab (@zbA _ 5 _ _ _ _ _ _ _ _ _ ["_law_k"] ["_law_some","_law_purse_here"] [4,0] _ _ _ _ za5.nd rfl (Or.inl rfl) (id (α:=CSc ["_law_purse_here","_law_table_here","_law_wheel_here","_law_n","_law_some","_law_given"] (zad yat) ["_law_k"] ["_law_some","_law_purse_here"] [4,0] _) ⟨by rfl,by decide +kernel,by decide +kernel,by decide +kernel,by decide +kernel,by rfl,by decide +kernel⟩) rfl (@yau _ _ _ _ _ _ rfl (B "range" (by decide)) (zaa (yaf ybq (pv 3) (zak yah rfl (B "len" (by decide)) PySem.boot_len (zaa (zan yas (pv 2) yac (fun _ _=>rfl)) yaa (by rfl)) (by decide) (by decide) (by rfl) (by rfl))) yaa (by rfl)) (by rfl)) (fun cl C fp s H=>(@yae _ _ 0 _ (by show List.Nodup (["_law_k","_law_some","_law_purse_here"]:List Str);decide +kernel) rfl (Or.inl rfl) (by trivial))) (fun _ _ _ _ _=>yaL) (fun _ _ _ _ _=>(zan (zf7 (K:=K) rfl) (pv 1) (yad h__law_pick hr (by decide) rfl (zaa (pv 2) (zaa (zak (zfs (K:=K) rfl) rfl (B "len" (by decide)) PySem.boot_len (zaa (pv 1) yaa (by rfl)) (by decide) (by decide) (by rfl) (by rfl)) yaa (by rfl)) (by rfl)) (by decide) (by rfl) (by rfl)) (fun _ _=>rfl))) (by rfl) (by intro _;rfl) (by trivial)) (zae (@zal _ _ _ _ (yad h__law_multiple hr (by decide) rfl (zaa (pv 1) (zaa (pv 2) (zaa (pv 3) (zaa (pv 5) yaa (by rfl)) (by rfl)) (by rfl)) (by rfl)) (by decide) (by rfl) (by rfl)))))),?_⟩
  refine ⟨_,rfl,_,rfl,wh,_,_,Vn few,rfl,rfl,SqT.of hW.w,rfl,tb,fa,pa,la,p,m,t,b,few,rfl,T,hf6,fun so H1 s1 nso eso=>?_⟩
  have hP1:=hP.same s1
  have T1:=T.same s1
  have hW1:=hW.same s1
  have nso2:=hP.lt nso
  have hlp:=zf4 (few:=few) G
  have hll:=zem p m t few
  have hlt:=zbL (p:=p) (m:=m) (t:=t) (few:=few)
  generalize hL:lets p m t few=ls at *
  dsimp only [zau]
  refine ⟨_,rfl,_,rfl,wh,_,_,.ref mk,rfl,rfl,SqT.of hW1.w,rfl,mk,_,rfl,.inr (SqT.of hW1.k),_,_,rfl,rfl,((n-marks.length:Nat):Int),?_,by omega,by omega,?_⟩
  · show [V.int ((n:Int)-(((marks.map Vn).length:Nat):Int))]=[V.int ((n-marks.length:Nat):Int)]
    rw [List.length_map,show (n:Int)-(marks.length:Int)=((n-marks.length:Nat):Int) by omega]
  refine zar zaK (fun k acc H'=>Pu H' pu g∧yan pu g H1 H'∧∃gs:List Nat,gs.length=k∧acc=gs.map Vn∧∀x∈gs,x∈ls) ⟨hP1,yan.refl,([]:List Nat),rfl,rfl,fun x hx=>absurd hx (by simp)⟩ (fun _ _ _ _ _=>trivial) ?_ ?_ ?_
  · rintro k acc H' hk ⟨_,_,gs,e,rfl,_⟩
    rw [List.length_map,e];exact zam (by omega)
  · rintro k acc x H2 H3 hk ⟨hP2,sx2,gs,e,rfl,hgs⟩ ⟨rfl,rfl⟩
    have eso2:=sx2 _ _ nso2.1 nso2.2 eso
    refine ⟨_,rfl,_,rfl,_,rfl,so,_,rfl,.inl (SqL.of eso2),pu,g,ls.length,by rw [List.length_map];rfl,hP2,hlp,by omega,fun v H4 hv hP4 sx4=>?_⟩
    refine ⟨so,_,_,Vn (ls.getD v 0),rfl,rfl,SqL.of (sx4 _ _ nso2.1 nso2.2 eso2),yaw (zat hv),?_⟩
    refine ⟨hP4,sx2.trans sx4,gs++[ls.getD v 0],by simp [e],by simp,fun x hx=>?_⟩
    rcases List.mem_append.mp hx with h|h
    · exact hgs x h
    · rw [List.mem_singleton.mp h,show ls.getD v 0=ls[v] by simp [List.getD,hv]];exact List.getElem_mem hv
  rintro acc H2 ⟨hP2,sx2,gs,egl,rfl,hgs⟩ gv hgv
  have egl2:gs.length=n-marks.length:=by rw [egl];omega
  have s3:=zac hgv (.lst (gs.map Vn))
  have T3:=(T1.x ap sx2).same s3
  have hW3:=(hW1.x nwh nmk sx2).same s3
  have hP3:=hP2.same s3
  refine ⟨_,rfl,_,rfl,_,rfl,_,rfl,tb,fa,pa,la,wh,mk,gv,p,m,t,b,few,root,n,marks,gs,rfl,T3,hW3,hrq,SqL.of zab,by omega,hn,fun x hx=>hlt x (hgs x hx),fun r H4 s4 nr er=>?_⟩
  exact q r gs H4 er (hP3.lt nr) egl2 hgs (hP3.same s4) ((Same.x s1).trans (sx2.trans (Same.x (s3.trans s4))))
def zet (K:PySem.W.Frag):Sp:=fun vs H Q _=>∃(tb fa pa la a:Addr) (p m t b x:Nat) (xs:List Nat),vs=[.ref tb,.ref a,Vn x]∧Tab H tb fa pa la p m t b∧SqT K H a (xs.map Vn)∧(∀y∈xs,y<p^m)∧x<p^m∧∀H',Same H H'→Q (Vn (val p m t x xs)) H'
theorem ybj:yaj ["_law_table_here","_law_row","_law_one","_law_found","_law_thing"] ["_law_table_here","_law_row","_law_one"] (zad za4):=⟨rfl,rfl,rfl,by decide +kernel,rfl,by decide +kernel,by decide +kernel⟩
theorem zfR (B:Bl mg) (h__law_plus:Has P w K mg base 1 "_law_plus" ["_law_table_here","_law_one","_law_other"] ycx) (h__law_times:Has P w K mg base 1 "_law_times" ["_law_table_here","_law_one","_law_other"] ybF) (F:Fun K "_law_value" "_law_value" za4 f fd):FnOk P w K mg base CX0 2 f fd ["_law_table_here","_law_row","_law_one"] (zet K):=by
  refine F.ok ybj (fun vs H Q E h=>?_) (fun cdv A outer s H vs Q E hr h=>?_)
  · obtain ⟨tb,fa,pa,la,a,p,m,t,b,x,xs,rfl,_⟩:=h;rfl
  obtain ⟨tb,fa,pa,la,a,p,m,t,b,x,xs,rfl,T,ha,hy,hx,q⟩:=h
  have hp:=T.good.hp
  have hm:=T.good.hm
  refine ⟨_,(yab (@zag _ _ 3 _ _ _ _ ybj.nd rfl (Or.inl rfl) yac (by rfl) (by trivial)) (yab (@yaD _ _ _ _ _ _ _ _ PassesOwn.never rfl (@zcA _ _ _ _ (@ygD _ _ _ _ _ _ _ _ (pv 1))) (@yae _ _ 4 _ ybj.nd rfl (Or.inl rfl) (by trivial)) (zae (@zag _ _ 3 _ _ _ _ ybj.nd rfl (Or.inl rfl) (yad h__law_plus hr (by decide) rfl (zaa (pv 0) (zaa (yad h__law_times hr (by decide) rfl (zaa (pv 0) (zaa (pv 3) (zaa (pv 2) yaa (by rfl)) (by rfl)) (by rfl)) (by decide) (by rfl) (by rfl)) (zaa (pv 4) yaa (by rfl)) (by rfl)) (by rfl)) (by decide) (by rfl) (by rfl)) (by rfl) (by trivial))) (by intro _;rfl)) (zae (@zal _ _ _ _ (pv 3))))),?_⟩
  refine ⟨_,rfl,a,_,rfl,ha,fun rv hrv=>?_⟩
  have s1:=zac hrv (.tup (xs.map Vn).reverse)
  have e1:upd H rv (.tup (xs.map Vn).reverse) rv=some (.tup (xs.reverse.map Vn)):=by rw [zab,List.map_reverse]
  generalize upd H rv (.tup (xs.map Vn).reverse)=H1 at s1 e1 ⊢
  have T1:=T.same s1
  refine ⟨rv,rfl,⟨_,SqT.of e1⟩,?_⟩
  refine zbb (ybL (xs:=xs.reverse.map Vn)) (fun k σ H'=>H'=H1∧∃s4,σ=[some (.ref tb),some (.ref a),some (Vn x),some (Vn (val p m t x (xs.drop (xs.length-k)))),s4]) ⟨rfl,none,by rw [Nat.sub_zero,List.drop_length];rfl⟩ (fun k σ H' _ h=>h.1 ▸ SqT.of e1) ?_ ?_
  · rintro k z σ H2 H3 hk ⟨rfl,s4,rfl⟩ ⟨rfl,ez⟩
    rw [List.length_map,List.length_reverse] at hk
    have hk2:xs.length-1-k<xs.length:=by omega
    have ez2:z=Vn (xs.getD (xs.length-1-k) 0):=by
      rw [List.getElem?_map,List.getElem?_reverse hk,List.getElem?_eq_getElem hk2] at ez
      rw [show xs.getD (xs.length-1-k) 0=xs[xs.length-1-k] by simp [List.getD,hk2]]
      exact (Option.some.inj ez).symm
    subst ez2
    refine ⟨_,rfl,_,rfl,_,rfl,_,rfl,tb,fa,pa,la,p,m,t,b,val p m t x (xs.drop (xs.length-k)),x,rfl,T1,ycp hp hm _ _,hx,?_⟩
    refine ⟨_,rfl,tb,fa,pa,la,p,m,t,b,mul p m t (val p m t x (xs.drop (xs.length-k))) x,xs.getD (xs.length-1-k) 0,rfl,T1,zaN hp hm _ _,zbi hy hk2,?_⟩
    have e:xs.drop (xs.length-(k+1))=xs.getD (xs.length-1-k) 0::xs.drop (xs.length-k):=by
      rw [show xs.length-(k+1)=xs.length-1-k by omega,List.drop_eq_getElem_cons hk2]
      congr 1
      · simp [List.getD,hk2]
      · congr 1;omega
    refine ⟨rfl,some (Vn (xs.getD (xs.length-1-k) 0)),?_⟩
    rw [e];rfl
  · rw [List.length_map,List.length_reverse]
    rintro σ H2 ⟨rfl,s4,rfl⟩
    rw [Nat.sub_self,List.drop_zero]
    exact ⟨_,rfl,q _ s1⟩
def zdl (K:PySem.W.Frag):Sp:=fun vs H Q _=>∃(a:Addr) (p m t x:Nat) (z:Int),vs=[.ref a,Vn x,.int z]∧Fld K H a p m t∧Good p m t∧x<p^m∧(x=0→0≤z)∧Q (Vn (pwz p m t x z)) H
theorem yf4:yaj ["field","one","many"] ["field","one","many"] (zad zci):=⟨rfl,rfl,rfl,by decide +kernel,rfl,by decide +kernel,by decide +kernel⟩
theorem ygb (B:Bl mg) (h_times_itself:Has P w K mg base 4 "times_itself" ["field","one","many"] (zdQ K)) (h_many_things:Has P w K mg base 2 "many_things" ["field"] (zef K)) (F:Fun K "power" "power" zci f fd):FnOk P w K mg base CX0 5 f fd ["field","one","many"] (zdl K):=by
  refine F.ok yf4 (fun vs H Q E h=>?_) (fun cdv A outer s H vs Q E hr h=>?_)
  · obtain ⟨a,p,m,t,x,z,rfl,_⟩:=h;rfl
  obtain ⟨a,p,m,t,x,z,rfl,hF,G,hx,hz,q⟩:=h
  have hp:=G.hp
  have hm:=G.hm
  have hQ:=zaM hp hm
  unfold pwz at q
  refine ⟨_,(yab (@yba _ _ _ _ _ _ _ _ (@zai _ _ _ _ _ _ _ _ zbr (pv 2) yac (yal _)) (zae (@zal _ _ _ _ yac)) zax) (yab (@yba _ _ _ _ _ _ _ _ (@zai _ _ _ _ _ _ _ _ zbr (pv 1) yac (yal _)) (yab (@yba _ _ _ _ _ _ _ _ (@zai _ _ _ _ _ _ _ _ zgh (pv 2) yac (yal _)) (zae ygi) zax) (zae (@zal _ _ _ _ yac))) zax) (zae (@zal _ _ _ _ (yad h_times_itself hr (by decide) rfl (zaa (pv 0) (zaa (pv 1) (zaa (yaf zaz (pv 2) (yaf ybq (yad h_many_things hr (by decide) rfl (zaa (pv 0) yaa (by rfl)) (by decide) (by rfl) (by rfl)) yac)) yaa (by rfl)) (by rfl)) (by rfl)) (by decide) (by rfl) (by rfl)))))),?_⟩
  refine ⟨_,rfl,rfl,_,rfl,?_⟩
  by_cases cz:z=0
  · subst cz
    refine ite2 (fun _=>?_) (fun h=>absurd (decide_eq_true rfl) h)
    have e:(if x=0 then (if (0:Int)=0 then 1 else 0) else pw p m t x ((0:Int)%(((p^m:Nat):Int)-1)).toNat)=1:=by
      by_cases c:x=0
      · rw [if_pos c,if_pos rfl]
      · rw [if_neg c,Int.zero_emod];rfl
    rw [e] at q
    exact q
  · refine ite2 (fun h=>absurd (V.int.inj (of_decide_eq_true h)) cz) (fun _=>?_)
    dsimp only [ze9]
    refine ⟨_,rfl,rfl,_,rfl,?_⟩
    rw [yb2]
    refine ite2 (fun c=>?_) (fun c=>?_)
    · have x0:x=0:=of_decide_eq_true c
      rw [if_pos x0,if_neg cz] at q
      refine ⟨_,rfl,_,_,rfl,rfl,_,rfl,?_⟩
      refine ite2 (fun h=>absurd (of_decide_eq_true h) (by have:=hz x0;omega)) (fun _=>?_)
      exact q
    · have x0:¬ x=0:=fun h=>c (decide_eq_true h)
      rw [if_neg x0] at q
      dsimp only [ze9]
      refine ⟨_,rfl,_,rfl,_,rfl,_,rfl,a,p,m,t,rfl,hF,p_le hp hm G.hq,by have:=m_le hp G.hq;omega,?_⟩
      refine ⟨_,_,rfl,rfl,_,_,rfl,rfl,by show (0:Int)<((p^m:Nat):Int)-1;omega,?_⟩
      have hz0:=Int.emod_nonneg z (show ((p^m:Nat):Int)-1≠0 by omega)
      obtain ⟨k,ek⟩:=Int.eq_ofNat_of_zero_le hz0
      refine ⟨a,p,m,t,x,k,?_,hF,G,hx,?_⟩
      · show [V.ref a,Vn x,V.int (z%(((p^m:Nat):Int)-1))]=[V.ref a,Vn x,Vn k]
        rw [ek]
      · rw [ek] at q;exact q
end
end My
end
section
-- text: PT
namespace My
open PySem L2 Dg
section
variable {p m t:Nat}
section
variable (hp:2≤p) (hm:1≤m)
include hp hm
theorem yeO {x y c:Nat} (hx:x<p^m) (hy:y<p^m) (h:add p m x c=add p m y c):x=y:=by
  rw [←ydr hp hm (y:=c) hx,h,ydr hp hm hy]
end
variable (G:Good p m t)
include G
omit G in
theorem rget {n:Nat} {f:Nat→Nat} {i:Nat} (h:i<n):((List.range n).map f).getD i 0=f i:=by
  rw [List.getD_eq_getElem?_getD,List.getElem?_map,List.getElem?_range h];rfl
end
end My
end
section
-- text: PU
namespace My
open PySem L2 Dg
section
variable {p m t:Nat} (G:Good p m t)
include G
theorem ygy {x r:Nat} {row:List Nat} (hx:x<p^m) (hr:∀y∈row,y<p^m):add p m (val p m t x (mkS p m t r row)) (mul p m t r (val p m t x row))=mul p m t (val p m t x row) x:=by
  have hp:=G.hp
  have hm:=G.hm
  have h0:=zbh hp hm
  have hA:∀i,(0::row).getD i 0<p^m:=fun i=>by
    cases i with
    | zero=>exact h0
    | succ i =>
      rw [List.getD_cons_succ]
      rcases Nat.lt_or_ge i row.length with h|h
      · exact zbi hr h
      · rw [ya6 h];exact h0
  rw [ybQ hp hm hx _ (zfc G),zcE,ybQ hp hm hx row hr]
  have e1:(sumF p m (row.length+1) fun k=>mul p m t ((mkS p m t r row).getD k 0) (pw p m t x k))=sumF p m (row.length+1) fun k=>mul p m t (sub p m ((0::row).getD k 0) (mul p m t r ((row++[0]).getD k 0))) (pw p m t x k):=by
    refine zaZ hp hm _ fun k hk=>?_
    rw [show (mkS p m t r row).getD k 0=_ from rget hk]
  have e2:mul p m t r (sumF p m row.length fun k=>mul p m t (row.getD k 0) (pw p m t x k))=sumF p m (row.length+1) fun k=>mul p m t (mul p m t r ((row++[0]).getD k 0)) (pw p m t x k):=by
    rw [zcy hp hm _ row.length 1 fun i h1 h2=>by
      have:i=row.length:=by omega
      subst this
      have e:(row++[0]).getD row.length 0=0:=by simp [List.getD]
      rw [e,mul_zero hp hm,zero_mul hp hm],mul_comm hp hm,←ycV hp hm]
    refine zaZ hp hm _ fun k hk=>?_
    have e:(row++[0]).getD k 0=row.getD k 0:=by simp [List.getD,List.getElem?_append,hk]
    rw [e,mul_comm hp hm r,mul_assoc hp hm,mul_assoc hp hm,mul_comm hp hm r]
  have e3:mul p m t (sumF p m row.length fun k=>mul p m t (row.getD k 0) (pw p m t x k)) x=sumF p m (row.length+1) fun k=>mul p m t ((0::row).getD k 0) (pw p m t x k):=by
    rw [ycI hp hm (f:=fun k=>mul p m t ((0::row).getD k 0) (pw p m t x k)) (fun i=>zaN hp hm _ _)]
    rw [show (0::row).getD 0 0=0 from rfl,zero_mul hp hm,zero_add hp hm (yfM hp hm _ _),←ycV hp hm]
    refine zaZ hp hm _ fun k _=>?_
    rw [List.getD_cons_succ,mul_assoc hp hm];rfl
  rw [e1,e2,e3,←zd1 hp hm]
  refine zaZ hp hm _ fun k _=>?_
  rw [←add_mul hp hm,yef hp hm (hA k)]
theorem zen {root x:Nat} (hx:x<p^m):∀(marks row:List Nat),(∀y∈row,y<p^m)→(val p m t x row=0∨∃k∈marks,x=pw p m t root k)→val p m t x (marks.foldl (fun row k=>mkS p m t (pw p m t root k) row) row)=0
  | [],row,_,h=>by
    rcases h with h | ⟨k,hk,_⟩
    · exact h
    · cases hk
  | k::ms,row,hr,h=>by
    have hp:=G.hp
    have hm:=G.hm
    rw [List.foldl_cons]
    have key:=ygy G (r:=pw p m t root k) hx hr
    refine zen hx ms _ (zfc G) ?_
    by_cases c:val p m t x row=0∨x=pw p m t root k
    · left
      refine yeO hp hm (c:=mul p m t (pw p m t root k) (val p m t x row)) (ycp hp hm _ _) (zbh hp hm) ?_
      rw [key,zero_add hp hm (zaN hp hm _ _)]
      rcases c with c|c
      · rw [c,zero_mul hp hm,mul_zero hp hm]
      · rw [←c,mul_comm hp hm]
    · right
      rcases h with h | ⟨k',hk',e⟩
      · exact absurd (.inl h) c
      · rcases List.mem_cons.mp hk' with h1|h1
        · exact absurd (.inr (h1 ▸ e)) c
        · exact ⟨k',h1,e⟩
theorem zgm {root k:Nat} {marks:List Nat} (h:k∈marks):val p m t (pw p m t root k) (mkL p m t root marks)=0 :=
  zen G (zbo G.hp G.hm _ _) marks [1] (fun y hy=>by rw [List.mem_singleton.mp hy];exact zaM G.hp G.hm) (.inr ⟨k,h,rfl⟩)
end
end My
end
section
-- text: PV
namespace My
open PySem L2 Dg
theorem ze6:∀ {l l':List Nat},l.Nodup→(∀x∈l,x∈l')→l.length≤l'.length
  | [],_,_,_=>Nat.zero_le _
  | x::l,l',hd,h=>by
    have hd':=List.nodup_cons.mp hd
    have hx:=h x List.mem_cons_self
    have:=ze6 (l:=l) (l':=l'.erase x) hd'.2 fun y hy=>(List.mem_erase_of_ne (fun e=>hd'.1 (by rw [←e];exact hy))).mpr (h y (List.mem_cons_of_mem _ hy))
    rw [List.length_erase_of_mem hx] at this
    have:=List.length_pos_of_mem hx
    rw [List.length_cons];omega
section
variable {p m t:Nat} (G:Good p m t)
include G
theorem zdZ {r n a b:Nat} (r0:0<r) (hr:r<p^m) (o:Ord p m t r n) (ha:a<n) (hb:b<n) (h:pw p m t r a=pw p m t r b):a=b:=by
  have hp:=G.hp
  have hm:=G.hm
  have es:∀i,mul p m t (pw p m t (pw p m t r (p^m-2)) i) (pw p m t r i)=1:=fun i=>by rw [←zc6 hp hm,G.inv r0 hr,zcb hp hm]
  have inj:∀a b,a<b→b<n→pw p m t r a=pw p m t r b→False:=fun a b hab hb h=>by
    refine o.min (b-a) (by omega) (by omega) ?_
    have h2:=ybR (t:=t) hp hm r a (b-a)
    rw [show a+(b-a)=b by omega,←h] at h2
    have h3:=congrArg (fun z=>mul p m t (pw p m t (pw p m t r (p^m-2)) a) z) h2
    rw [es,←mul_assoc hp hm,es,one_mul hp hm (zbo hp hm _ _)] at h3
    exact h3.symm
  rcases Nat.lt_trichotomy a b with h1|h1|h1
  · exact (inj a b h1 hb h).elim
  · exact h1
  · exact (inj b a h1 ha h.symm).elim
end
def addL (p m:Nat) (xs ys:List Nat):List Nat:=(List.range (min xs.length ys.length)).map fun i=>add p m (xs.getD i 0) (ys.getD i 0)
theorem zeB {p m n:Nat} {xs ys:List Nat} (h1:xs.length=n) (h2:ys.length=n):(addL p m xs ys).length=n:=by simp [addL,h1,h2]
section
variable {p m t:Nat} (G:Good p m t)
include G
theorem zfJ (xs ys:List Nat):∀x∈addL p m xs ys,x<p^m:=fun x hx=>by
  obtain ⟨i,_,rfl⟩:=List.mem_map.mp hx
  exact zbD G.hp G.hm _ _
theorem yfY {x n:Nat} {xs ys:List Nat} (hx:x<p^m) (l1:xs.length=n) (l2:ys.length=n) (h1:∀a∈xs,a<p^m) (h2:∀a∈ys,a<p^m):val p m t x (addL p m xs ys)=add p m (val p m t x xs) (val p m t x ys):=by
  have hp:=G.hp
  have hm:=G.hm
  rw [ybQ hp hm hx _ (zfJ G xs ys),ybQ hp hm hx _ h1,ybQ hp hm hx _ h2,zeB l1 l2,l1,l2,←zd1 hp hm]
  refine zaZ hp hm _ fun i hi=>?_
  have e:(addL p m xs ys).getD i 0=add p m (xs.getD i 0) (ys.getD i 0):=rget (by rw [l1,l2,Nat.min_self];exact hi)
  rw [e,add_mul hp hm]
theorem ze5 {x c:Nat} {xs:List Nat} (hx:x<p^m) (h1:∀a∈xs,a<p^m):val p m t x (ycj p m t c xs)=mul p m t c (val p m t x xs):=by
  have hp:=G.hp
  have hm:=G.hm
  have hl:(ycj p m t c xs).length=xs.length:=by simp [ycj]
  rw [ybQ hp hm hx _ (yex G c xs),ybQ hp hm hx _ h1,hl,mul_comm hp hm c,←ycV hp hm]
  refine zaZ hp hm _ fun k hk=>?_
  rw [show (ycj p m t c xs).getD k 0=mul p m t c (xs.getD k 0) from rget hk,mul_comm hp hm c,mul_assoc hp hm,mul_assoc hp hm,mul_comm hp hm c]
end
end My
end
section
-- text: PZ
namespace My
open PySem L2 Dg
section
variable {p m t:Nat} (G:Good p m t)
include G
theorem yfF {xs:List Nat} (h:∀x∈xs,x<p^m) (i:Nat):xs.getD i 0<p^m:=by
  by_cases c:i<xs.length
  · exact zbi h c
  · rw [ya6 (by omega)];exact zbh G.hp G.hm
theorem ydQ {x:Nat} (hx:x<p^m):sub p m x x=0:=by
  have:=ydr G.hp G.hm (y:=x) (zbh G.hp G.hm (p:=p) (m:=m))
  rw [zero_add G.hp G.hm hx] at this
  exact this
omit G in
theorem yfW (row:List Nat) (i:Nat):(row++[0]).getD i 0=row.getD i 0:=by
  by_cases c:i<row.length
  · rw [List.getD_eq_getElem?_getD,List.getElem?_append_left c,←List.getD_eq_getElem?_getD]
  · rw [ya6 (xs:=row) (by omega),List.getD_eq_getElem?_getD,List.getElem?_append_right (by omega)]
    cases i-row.length with
    | zero=>rfl
    | succ k=>rfl
theorem ygl {row:List Nat} {r:Nat} (h0:0<row.length) (hl:row.getD (row.length-1) 0=1):(mkS p m t r row).getD row.length 0=1:=by
  have hp:=G.hp
  have hm:=G.hm
  unfold mkS
  rw [ze2,if_pos (by omega),yfW,ya6 (xs:=row) (i:=row.length) (Nat.le_refl _),mul_zero hp hm]
  obtain ⟨k,hk⟩:∃k,row.length=k+1:=⟨row.length-1,by omega⟩
  rw [hk]
  show sub p m (row.getD k 0) 0=1
  rw [hk] at hl
  rw [show k+1-1=k from rfl] at hl
  rw [hl]
  have:=ydr hp hm (x:=1) (y:=0) (zaM hp hm)
  rw [add_zero hp hm (zaM hp hm)] at this
  exact this
theorem yew (root:Nat):∀(marks row:List Nat),0<row.length→row.getD (row.length-1) 0=1→(marks.foldl (fun row k=>mkS p m t (pw p m t root k) row) row).getD (row.length+marks.length-1) 0=1
  | [],row,_,h=>h
  | k::marks,row,h0,h=>by
    have:=yew root marks (mkS p m t (pw p m t root k) row) (by rw [zcE];omega) (by rw [zcE];exact ygl G h0 h)
    rw [zcE] at this
    rw [List.foldl_cons,show row.length+(k::marks).length-1=row.length+1+marks.length-1 by rw [List.length_cons];omega]
    exact this
theorem zfU (root:Nat) (marks:List Nat):(mkL p m t root marks).getD marks.length 0=1:=by
  have:=yew G root marks [1] (by decide) rfl
  rw [show ([1]:List Nat).length+marks.length-1=marks.length by simp] at this
  exact this
end
section
variable {P:Program} {w:World} {K:PySem.W.Frag} {mg:Str→Option Value} {base:Heap} {f:Addr} {fd:FuncData}
end
end My
end
section
-- text: PQ
namespace My
open PySem L2 Dg
def hor (p m t y:Nat):List Nat→List Nat
  | []=>[]
  | _::r=>val p m t y r::hor p m t y r
theorem yd2 (p m t y:Nat):∀(xs:List Nat) (i:Nat),(hor p m t y xs).getD i 0=val p m t y (xs.drop (i+1))
  | [],i=>by simp [hor,val]
  | a::r,0=>rfl
  | a::r,i+1=>yd2 p m t y r i
section
variable {p m t:Nat} (G:Good p m t)
include G
theorem zgp (y:Nat):∀(xs:List Nat),∀x∈hor p m t y xs,x<p^m
  | [],x,h=>nomatch h
  | a::r,x,h=>by
    rcases List.mem_cons.mp h with h|h
    · rw [h];exact ycp G.hp G.hm _ _
    · exact zgp y r x h
theorem zdJ {x y:Nat} (hx:x<p^m) (hy:y<p^m) (h:sub p m x y=0):x=y:=by
  have:=yef G.hp G.hm (y:=y) hx
  rw [h,zero_add G.hp G.hm hy] at this
  exact this.symm
theorem zfx {y z:Nat} (hz:z<p^m):∀(xs:List Nat),(∀x∈xs,x<p^m)→val p m t z xs=add p m (mul p m t (sub p m z y) (val p m t z (hor p m t y xs))) (val p m t y xs)
  | [],_=>by
    show 0=add p m (mul p m t (sub p m z y) 0) 0
    rw [mul_zero G.hp G.hm,add_zero G.hp G.hm (zbh G.hp G.hm)]
  | a::r,h=>by
    have hp:=G.hp
    have hm:=G.hm
    have ih:=zfx hz r (fun x hx=>h x (List.mem_cons_of_mem _ hx)) (y:=y)
    show add p m (mul p m t (val p m t z r) z) a=add p m (mul p m t (sub p m z y) (add p m (mul p m t (val p m t z (hor p m t y r)) z) (val p m t y r))) (add p m (mul p m t (val p m t y r) y) a)
    have e1:mul p m t (val p m t y r) z=add p m (mul p m t (sub p m z y) (val p m t y r)) (mul p m t (val p m t y r) y):=by
      rw [mul_comm hp hm (sub p m z y),←mul_add hp hm,yef hp hm hz]
    rw [←add_assoc hp hm]
    refine congrArg (add p m · a) ?_
    rw [ih,add_mul hp hm,e1,mul_add hp hm,add_assoc hp hm,mul_assoc hp hm]
theorem ydR:∀(pts:List Nat) (xs:List Nat),pts.Nodup→(∀y∈pts,y<p^m)→(∀x∈xs,x<p^m)→(∀i,pts.length≤i→xs.getD i 0=0)→(∀y∈pts,val p m t y xs=0)→∀i,xs.getD i 0=0
  | [],xs,_,_,_,h,_=>fun i=>h i (Nat.zero_le _)
  | y::pts,xs,hn,hy,hx,h,hv=>by
    have hp:=G.hp
    have hm:=G.hm
    have vz:∀(k:Nat),(∀i,k≤i→xs.getD i 0=0)→val p m t y (xs.drop k)=0:=fun k hk=>by
      have e:xs.drop k=List.replicate (xs.drop k).length 0:=by
        refine List.eq_replicate_iff.mpr ⟨rfl,fun b hb=>?_⟩
        obtain ⟨i,hi,rfl⟩:=List.mem_iff_getElem.mp hb
        rw [List.getElem_drop]
        have:=hk (k+i) (by omega)
        rw [List.length_drop] at hi
        rw [List.getD_eq_getElem?_getD,List.getElem?_eq_getElem (by omega)] at this
        exact this
      rw [e]
      generalize (xs.drop k).length=n
      induction n with
      | zero=>rfl
      | succ n ih =>
        show add p m (mul p m t (val p m t y (List.replicate n 0)) y) 0=0
        rw [ih,zero_mul hp hm,add_zero hp hm (zbh hp hm)]
    have hes:∀i,(hor p m t y xs).getD i 0=0:=by
      refine ydR pts (hor p m t y xs) (List.nodup_cons.mp hn).2 (fun z hz=>hy z (List.mem_cons_of_mem _ hz)) (zgp G y xs) (fun i hi=>?_) (fun z hz=>?_)
      · rw [yd2]
        exact vz (i+1) fun j hj=>h j (by simp;omega)
      · have e:=zfx G (y:=y) (hy z (List.mem_cons_of_mem _ hz)) xs hx
        rw [hv z (List.mem_cons_of_mem _ hz),hv y List.mem_cons_self,add_zero hp hm (zaN hp hm _ _)] at e
        rcases Nat.eq_zero_or_pos (val p m t z (hor p m t y xs)) with c|c
        · exact c
        · have hne:0<sub p m z y:=by
            rcases Nat.eq_zero_or_pos (sub p m z y) with d|d
            · have:=zdJ G (hy z (List.mem_cons_of_mem _ hz)) (hy y List.mem_cons_self) d
              exact absurd (this ▸ hz) (List.nodup_cons.mp hn).1
            · exact d
          have:=G.noz hne (yeB hp hm _ _) c (ycp hp hm _ _)
          omega
    have hd:∀i,val p m t y (xs.drop i)=0
      | 0=>by rw [List.drop_zero];exact hv y List.mem_cons_self
      | i+1=>by rw [←yd2];exact hes i
    intro i
    by_cases c:i<xs.length
    · have e:=hd i
      rw [List.drop_eq_getElem_cons c] at e
      change add p m (mul p m t (val p m t y (xs.drop (i+1))) y) xs[i]=0 at e
      rw [hd (i+1),zero_mul hp hm,zero_add hp hm (hx _ (List.getElem_mem c))] at e
      rw [List.getD_eq_getElem?_getD,List.getElem?_eq_getElem c]
      exact e
    · exact ya6 (by omega)
theorem zfK {pts u v:List Nat} (hn:pts.Nodup) (hy:∀y∈pts,y<p^m) (hl:u.length=v.length) (hu:∀x∈u,x<p^m) (hv:∀x∈v,x<p^m) (hd:u.drop pts.length=v.drop pts.length) (h:∀y∈pts,val p m t y u=val p m t y v):u=v:=by
  have hp:=G.hp
  have hm:=G.hm
  have lp:(ycj p m t (p-1) v).length=v.length:=by simp [ycj]
  have gp:∀i,(ycj p m t (p-1) v).getD i 0=mul p m t (p-1) (v.getD i 0):=fun i=>by
    by_cases c:i<v.length
    · exact rget c
    · rw [ya6 (xs:=v) (by omega),ya6 (by rw [lp];omega),mul_zero hp hm]
  have gd:∀i,i<u.length→(addL p m u (ycj p m t (p-1) v)).getD i 0=sub p m (u.getD i 0) (v.getD i 0):=fun i hi=>by
    have:(addL p m u (ycj p m t (p-1) v)).getD i 0=add p m (u.getD i 0) ((ycj p m t (p-1) v).getD i 0):=rget (by rw [lp,hl,Nat.min_self];omega)
    rw [this,gp,yfk hp hm (yfF G hu i) (yfF G hv i)]
  have la:=zeB (p:=p) (m:=m) (n:=u.length) (ys:=ycj p m t (p-1) v) rfl (by rw [lp,hl])
  have z:=ydR G pts (addL p m u (ycj p m t (p-1) v)) hn hy (zfJ G _ _) (fun i hi=>by
    by_cases c:i<u.length
    · rw [gd i c]
      have e:u.getD i 0=v.getD i 0:=by
        have h1:=congrArg (fun l=>l.getD (i-pts.length) 0) hd
        rw [List.getD_eq_getElem?_getD,List.getElem?_drop,List.getD_eq_getElem?_getD,List.getElem?_drop,show pts.length+(i-pts.length)=i by omega] at h1
        rw [List.getD_eq_getElem?_getD,List.getD_eq_getElem?_getD];exact h1
      rw [e];exact ydQ G (yfF G hv i)
    · exact ya6 (by rw [la];omega)) (fun y hy'=>by
    rw [yfY G (hy y hy') rfl (by rw [lp,hl]) hu (yex G _ _),ze5 G (hy y hy') hv,h y hy',yfk hp hm (ycp hp hm _ _) (ycp hp hm _ _)]
    exact ydQ G (ycp hp hm _ _))
  refine List.ext_getElem hl fun i h1 h2=>?_
  have e:=z i
  rw [gd i h1] at e
  have:=zdJ G (yfF G hu i) (yfF G hv i) e
  rw [List.getD_eq_getElem?_getD,List.getElem?_eq_getElem h1,List.getD_eq_getElem?_getD,List.getElem?_eq_getElem h2] at this
  exact this
theorem zei {y few:Nat} (hy:y<p^m):∀xs:List Nat,(∀x∈xs,x<p^m)→val p m t (pw p m t y (p^few)) (xs.map fun x=>pw p m t x (p^few))=pw p m t (val p m t y xs) (p^few)
  | [],_=>by
    show 0=pw p m t 0 (p^few)
    have:0<p^few:=Nat.pow_pos (by have:=G.hp;omega)
    rw [show p^few=(p^few-1)+1 by omega,zcf G.hp G.hm]
  | a::r,h=>by
    have hp:=G.hp
    have hm:=G.hm
    show add p m (mul p m t (val p m t (pw p m t y (p^few)) (r.map fun x=>pw p m t x (p^few))) (pw p m t y (p^few))) (pw p m t a (p^few))=pw p m t (add p m (mul p m t (val p m t y r) y) a) (p^few)
    rw [zei hy r (fun x hx=>h x (List.mem_cons_of_mem _ hx)),←zc6 hp hm,G.frobN few (zaN hp hm _ _) (h a List.mem_cons_self)]
theorem zeW {few root n k:Nat} {marks:List Nat} (W:Whl p m t few root n marks) (hk:k∈marks):∃k'∈marks,pw p m t (pw p m t root k') (p^few)=pw p m t root k:=by
  have hp:=G.hp
  have hm:=G.hm
  have hn:=W.ord.pos
  have he:=W.ord.round G W.r0 W.rq W.fewm W.few1
  have he1:1≤m/few:=Nat.div_pos (Nat.le_of_dvd (by omega) (Nat.dvd_of_mod_eq_zero W.fewm)) W.few1
  have it:∀j,k*(p^few)^j%n∈marks:=fun j=>by
    induction j with
    | zero=>rw [Nat.pow_zero,Nat.mul_one,Nat.mod_eq_of_lt (W.lt k hk)];exact hk
    | succ j ih =>
      have:=W.closed _ ih
      rw [Nat.mod_mul_mod,Nat.mul_assoc,←Nat.pow_succ] at this
      exact this
  have pm:∀a,pw p m t root (a%n)=pw p m t root a:=fun a=>by
    conv=>rhs;rw [←Nat.div_add_mod a n,ybR hp hm,zbE hp hm,W.ord.one,zcb hp hm,one_mul hp hm (zbo hp hm _ _)]
  refine ⟨_,it (m/few-1),?_⟩
  rw [pm,←zbE hp hm,Nat.mul_assoc,←Nat.pow_succ,show (m/few-1).succ=m/few by omega,←pm,Nat.mul_mod,he,←Nat.mul_mod,Nat.mul_one,pm]
theorem yg4 {root n:Nat} {marks:List Nat} (r0:0<root) (hr:root<p^m) (o:Ord p m t root n) (hasc:marks.Pairwise (· < ·)) (hl:∀x∈marks,x<n):(marks.map fun k=>pw p m t root k).Nodup:=by
  rw [List.Nodup,List.pairwise_map]
  refine List.Pairwise.imp_of_mem (fun {a b} ha hb h e=>?_) hasc
  have:=zdZ G r0 hr o (hl a ha) (hl b hb) e
  omega
theorem zfg {few root n:Nat} {marks u v:List Nat} (W:Whl p m t few root n marks) (hl:u.length=v.length) (hu:∀x∈u,x<p^m) (hv:∀x∈v,x<p^m) (hd:u.drop marks.length=v.drop marks.length) (zu:∀k∈marks,val p m t (pw p m t root k) u=0) (zv:∀k∈marks,val p m t (pw p m t root k) v=0):u=v:=by
  refine zfK G (pts:=marks.map fun k=>pw p m t root k) (yg4 G W.r0 W.rq W.ord W.asc W.lt) (fun y hy=>?_) hl hu hv (by rw [List.length_map];exact hd) (fun y hy=>?_)
  · obtain ⟨k,_,rfl⟩:=List.mem_map.mp hy;exact zbo G.hp G.hm _ _
  · obtain ⟨k,hk,rfl⟩:=List.mem_map.mp hy
    rw [zu k hk,zv k hk]
theorem yff {few root n:Nat} {marks u:List Nat} (W:Whl p m t few root n marks) (hu:∀x∈u,x<p^m) (zu:∀k∈marks,val p m t (pw p m t root k) u=0) (hd:∀x∈u.drop marks.length,pw p m t x (p^few)=x):∀x∈u,pw p m t x (p^few)=x:=by
  have hp:=G.hp
  have hm:=G.hm
  have e:(u.map fun x=>pw p m t x (p^few))=u:=by
    refine zfg G W (by rw [List.length_map]) (fun x hx=>by obtain ⟨y,_,rfl⟩:=List.mem_map.mp hx;exact zbo hp hm _ _) hu ?_ (fun k hk=>?_) zu
    · rw [←List.map_drop]
      conv=>rhs;rw [←List.map_id (u.drop marks.length)]
      exact List.map_congr_left fun x hx=>hd x hx
    · obtain ⟨k',hk',e'⟩:=zeW G W hk
      rw [←e',zei G (zbo hp hm _ _) u hu,zu k' hk']
      have:0<p^few:=Nat.pow_pos (by omega)
      rw [show p^few=(p^few-1)+1 by omega,zcf hp hm]
  intro x hx
  obtain ⟨i,hi,rfl⟩:=List.mem_iff_getElem.mp hx
  have:=congrArg (fun l=>l[i]?) e
  rw [List.getElem?_map,List.getElem?_eq_getElem hi] at this
  exact Option.some.inj this
end
end My
end
section
-- text: Q46
namespace My
open PySem L2 Dg
section
variable {p m t few:Nat} (G:Good p m t)
include G
theorem ybI {x:Nat} (hx:x<p^m):x∈lets p m t few↔pw p m t x (p^few)=x:=by
  unfold lets
  rw [List.mem_filter,List.mem_range,decide_eq_true_iff]
  exact ⟨fun h=>h.2,fun h=>⟨hx,h⟩⟩
theorem yfS {x y:Nat} (hx:x∈lets p m t few) (hy:y∈lets p m t few):add p m x y∈lets p m t few:=by
  have bx:=zbL x hx
  have b_y:=zbL y hy
  rw [ybI G bx] at hx
  rw [ybI G b_y] at hy
  rw [ybI G (zbD G.hp G.hm _ _),G.frobN few bx b_y,hx,hy]
theorem zgb {x y:Nat} (hx:x∈lets p m t few) (hy:y∈lets p m t few):mul p m t x y∈lets p m t few:=by
  have bx:=zbL x hx
  have b_y:=zbL y hy
  rw [ybI G bx] at hx
  rw [ybI G b_y] at hy
  rw [ybI G (zaN G.hp G.hm _ _),zc6 G.hp G.hm,hx,hy]
theorem ycM:0∈lets p m t few:=by
  have hp:=G.hp
  rw [ybI G (zbh G.hp G.hm)]
  obtain ⟨k,hk⟩:∃k,p^few=k+1:=⟨p^few-1,by have:0<p^few:=Nat.pow_pos (by omega);omega⟩
  rw [hk];exact zcf G.hp G.hm k
theorem yet {f:Nat→Nat}:∀k,(∀i,i<k→f i∈lets p m t few)→sumF p m k f∈lets p m t few
  | 0,_=>ycM G
  | k+1,h=>yfS G (yet k fun i hi=>h i (by omega)) (h k (by omega))
theorem ydI {xs:List Nat} (h:∀x∈xs,x∈lets p m t few) (i:Nat):xs.getD i 0∈lets p m t few:=by
  by_cases c:i<xs.length
  · rw [show xs.getD i 0=xs[i] by simp [List.getD,c]];exact h _ (List.getElem_mem c)
  · rw [ya6 (by omega)];exact ycM G
theorem ydH {xs ys:List Nat} (hx:∀x∈xs,x∈lets p m t few) (hy:∀x∈ys,x∈lets p m t few) (n:Nat):conv p m t xs ys n∈lets p m t few :=
  yet G _ fun i _=>zgb G (ydI G hx i) (ydI G hy _)
theorem ygQ {root n:Nat} {marks:List Nat} (W:Whl p m t few root n marks):∀x∈mkL p m t root marks,x∈lets p m t few:=fun x hx=>by
  have hp:=G.hp
  have hm:=G.hm
  rw [ybI G (zeC G marks x hx)]
  refine yff G W (zeC G marks) (fun k hk=>zgm G hk) (fun y hy=>?_) x hx
  have e:(mkL p m t root marks).drop marks.length=[1]:=by
    have hl:=yed p m t root marks
    have hlt:marks.length<(mkL p m t root marks).length:=by omega
    rw [List.drop_eq_getElem_cons hlt,List.drop_of_length_le (by omega)]
    have:=zfU G root marks
    simp only [List.getD,List.getElem?_eq_getElem hlt,Option.getD_some] at this
    rw [this]
  rw [e] at hy
  rw [List.mem_singleton.mp hy]
  exact zcb hp hm _
end
theorem zfY {K:PySem.W.Frag} {H H':Hp} {a:Addr} {xs:List V} (e:Same H H') (h:SqL K H a xs):SqL K H' a xs:=by
  rcases h with (h | ⟨o,h⟩)|h
  · exact .inl (.inl (e _ _ h))
  · exact .inl (.inr ⟨o,e _ _ h⟩)
  · exact .inr h
theorem zeE {K:PySem.W.Frag} {H H':Hp} {x:V} {T:String} (s:Same H H') (h:yfJ K H x T):yfJ K H' x T:=by
  cases x with
  | ref a =>
    rcases h with ⟨e,xs,h⟩ | ⟨e,xs,h⟩
    · exact .inl ⟨e,xs,zfY s h⟩
    · exact .inr ⟨e,xs,Same.tup s h⟩
  | _=>exact h
theorem zch {K:PySem.W.Frag} {H H':Hp} {x:V} {T:String} (s:Same H H') (h:ydo K H x T):ydo K H' x T:=by
  rcases h with h | ⟨e,a,kvs,ea,h⟩
  · exact .inl (zeE s h)
  · exact .inr ⟨e,a,kvs,ea,s _ _ h⟩
def Kd (K:PySem.W.Frag) (H:Hp) (e:V):Prop:=∃T,ydo K H e T
theorem Kd.same {K:PySem.W.Frag} {H H':Hp} {x:V} (s:Same H H') (h:Kd K H x):Kd K H' x:=by
  obtain ⟨T,h⟩:=h
  exact ⟨T,zch s h⟩
def letV (ls:List Nat):V→Bool
  | .int i=>inV (.int i) (ls.map Vn)
  | _=>false
theorem zfW {K:PySem.W.Frag} {H:Hp} {z:V} (h:ydo K H z "int"):∃i,z = .int i:=by
  rcases h with h | ⟨e,_⟩
  · cases z with
    | int i=>exact ⟨i,rfl⟩
    | ref a=>rcases h with ⟨e,_⟩ | ⟨e,_⟩ <;> exact absurd e (by decide)
    | non=>exact absurd (show "int" = "NoneType" from h) (by decide)
    | bl b=>exact absurd (show "int" = "bool" from h) (by decide)
    | str b=>exact absurd (show "int" = "str" from h) (by decide)
    | _=>exact False.elim h
  · exact absurd e (by decide)
theorem ygM {K:PySem.W.Frag} {H:Hp} {z:V} {T:String} {ls:List Nat} (h:ydo K H z T) (n:T≠"int"):letV ls z=false:=by
  cases z with
  | int i =>
    rcases h with h | ⟨_,a,_,e,_⟩
    · exact absurd h n
    · cases e
  | _=>rfl
def badE (many:Nat) (e:V):Prop:=∀i:Int,e = .int i→i<0∨(many:Int)≤i
theorem yg1 {many:Nat} {ls:List Nat} {e:V} (hl:∀x∈ls,x<many) (h:badE many e):letV ls e=false:=by
  cases e with
  | int i =>
    show inV (.int i) (ls.map Vn)=false
    cases c:inV (.int i) (ls.map Vn) with
    | false=>rfl
    | true =>
      exfalso
      rcases Int.lt_or_le i 0 with hi|hi
      · unfold inV at c
        rw [List.any_map,List.any_eq_true] at c
        obtain ⟨y,hy,hc⟩:=c
        have:((y:Int)==i)=true:=hc
        have:=eq_of_beq this
        omega
      · obtain ⟨k,rfl⟩:=Int.eq_ofNat_of_zero_le hi
        rw [show V.int ((k:Nat):Int)=Vn k from rfl,ycd] at c
        have h1:=hl k (of_decide_eq_true c)
        have h2:=h _ rfl
        omega
  | _=>rfl
def OddT (K:PySem.W.Frag) (H:Hp) (n many:Nat) (x:V):Prop:=(∃T,ydo K H x T∧T≠"tuple")∨∃a xs,x = .ref a∧SqT K H a xs∧(xs.length≠n∨(xs.length=n∧(∀e∈xs,Kd K H e)∧∃e∈xs,badE many e))
theorem OddT.same {K:PySem.W.Frag} {H H':Hp} {n many:Nat} {x:V} (s:Same H H') (h:OddT K H n many x):OddT K H' n many x:=by
  rcases h with ⟨T,h1,h2⟩ | ⟨a,xs,e,h1,h2⟩
  · exact .inl ⟨T,zch s h1,h2⟩
  · refine .inr ⟨a,xs,e,Same.tup s h1,h2.imp id fun ⟨h3,h4,h5⟩=>⟨h3,fun e he=>(h4 e he).same s,h5⟩⟩
def isW (p m t root:Nat) (marks row:List Nat):Bool:=marks.all fun i=>decide (val p m t (pw p m t root i) row=0)
section
variable {P:Program} {w:World} {K:PySem.W.Frag} {mg:Str→Option Value} {base:Heap} {f:Addr} {fd:FuncData}
def zgr (K:PySem.W.Frag):Sp:=fun vs H Q _=>∃(x:V) (T:String),vs=[x]∧ydo K H x T∧Q (.bl (T=="int")) H
theorem zeb:yaj ["thing"] ["thing"] (zad zbm):=⟨rfl,rfl,rfl,by decide +kernel,rfl,by decide +kernel,by decide +kernel⟩
theorem yg7 (B:Bl mg) (F:Fun K "is_whole" "is_whole" zbm f fd):FnOk P w K mg base CX0 1 f fd ["thing"] (zgr K):=by
  refine F.ok zeb (fun vs H Q E h=>?_) (fun cdv A outer s H vs Q E hr h=>?_)
  · obtain ⟨x,T,rfl,_⟩:=h;rfl
  obtain ⟨x,T,rfl,hk,q⟩:=h
  refine ⟨_,(zae (@zal _ _ _ _ (@zeq _ _ _ _ _ _ _ (zak zfX rfl (B "isinstance" (by decide)) PyProof.Rows.boot_isinstance (zaa (pv 0) (zaa (@zdu _ _ _ _ _ rfl (B "int" (by decide)) zcD (id (α:=RelV (.ty "int") (.type "int")) rfl) (by decide) (by decide)) yaa (by rfl)) (by rfl)) (by decide) (by decide) (by rfl) (by rfl)) (@yeq _ _ _ _ _ (@zhe _ _ _ _ (zak ydX rfl (B "isinstance" (by decide)) PyProof.Rows.boot_isinstance (zaa (pv 0) (zaa (@zdu _ _ _ _ _ rfl (B "bool" (by decide)) zcq (id (α:=RelV (.ty "bool") (.type "bool")) rfl) (by decide) (by decide)) yaa (by rfl)) (by rfl)) (by decide) (by decide) (by rfl) (by rfl))))))),?_⟩
  refine ⟨_,rfl,x,T,rfl,hk,_,rfl,?_⟩
  refine ite2 (fun c=>?_) (fun c=>?_)
  · refine ⟨_,rfl,x,T,rfl,hk,_,rfl,?_⟩
    have e:(!subK T "bool")=(T=="int"):=by
      by_cases h:T = "int"
      · subst h;decide
      · have h2:T = "bool":=by
          unfold subK at c
          simp [h] at c
          exact c
        subst h2;decide
    rw [e];exact q
  · have e:(T=="int")=false:=by
      cases h:(T=="int") with
      | false=>rfl
      | true=>exact absurd (by unfold subK;rw [h];rfl) c
    rw [e] at q;exact q
def zeh (K:PySem.W.Frag):Sp:=fun vs H Q _=>∃(wh fa mk:Addr) (p m t few root n:Nat) (marks:List Nat) (x:V),vs=[.ref wh,x]∧WhAt H wh fa mk few root marks∧Fld K H fa p m t∧Good p m t∧0<root∧root<p^m∧Ord p m t root n∧n≤64∧few≤6∧
  (((∃T,ydo K H x T∧T≠"tuple")∧∀H',Same H H'→Q (.bl false) H')∨∃a xs,x = .ref a∧SqT K H a xs∧((xs.length≠n∧∀H',Same H H'→Q (.bl false) H')∨(xs.length=n∧(∀e∈xs,Kd K H e)∧∀H',Same H H'→Q (.bl (xs.all (letV (lets p m t few)))) H')))
def zda (K:PySem.W.Frag):Sp:=fun vs H Q _=>∃(a:Addr) (p m t few:Nat),vs=[.ref a,Vn few]∧Fld K H a p m t∧Good p m t∧few≤6∧∀r H',Same H H'→H r=none→H' r=some (.tup ((lets p m t few).map Vn))→Q (.ref r) H'
theorem zc4:yaj ["field","few","q"] ["field","few"] (zad ybo):=⟨rfl,rfl,rfl,by decide +kernel,rfl,by decide +kernel,by decide +kernel⟩
theorem zeI (B:Bl mg) (h_number_power:Has P w K mg base 1 "number_power" ["base","many"] zap) (h_power:Has P w K mg base 5 "power" ["field","one","many"] (zdl K)) (h_many_things:Has P w K mg base 2 "many_things" ["field"] (zef K)) (F:Fun K "letters" "letters" ybo f fd):FnOk P w K mg base CX0 6 f fd ["field","few"] (zda K):=by
  refine F.ok zc4 (fun vs H Q E h=>?_) (fun cdv A outer s H vs Q E hr h=>?_)
  · obtain ⟨a,p,m,t,few,rfl,_⟩:=h;rfl
  obtain ⟨a,p,m,t,few,rfl,hF,G,hf,q⟩:=h
  have hp:=G.hp
  have hm:=G.hm
  have hQ:=G.hq
  have hp2:=p_le hp hm hQ
  have hm6:=m_le hp hQ
  refine ⟨_,(yab (@zag _ _ 2 _ _ _ _ zc4.nd rfl (Or.inr rfl) (yad h_number_power hr (by decide) rfl (zaa (zan yas (pv 0) yac (fun _ _=>rfl)) (zaa (pv 1) yaa (by rfl)) (by rfl)) (by decide) (by rfl) (by rfl)) (by rfl) (by trivial)) (zae (@zal _ _ _ _ (yaq zaI rfl (B "tuple" (by decide)) yaA (zaa (@yaM _ _ _ _ _ _ _ ["one"] ["field","q"] [0,2] _ _ _ _ (id (α:=CSc ["field","few","q"] (zad ybo) ["one"] ["field","q"] [0,2] _) ⟨by rfl,by decide +kernel,by decide +kernel,by decide +kernel,by decide +kernel,by rfl,by decide +kernel⟩) rfl (@yau _ _ _ _ _ _ rfl (B "range" (by decide)) (zaa (yad h_many_things hr (by decide) rfl (zaa (pv 0) yaa (by rfl)) (by decide) (by rfl) (by rfl)) yaa (by rfl)) (by rfl)) (fun cl C fp s H=>(@yae _ _ 0 _ (by show List.Nodup (["one","field","q"]:List Str);decide +kernel) rfl (Or.inl rfl) (by trivial))) (fun _ _ _ _ _=>(@ybd _ _ _ (@zai _ _ _ _ _ _ _ _ zbr (yad h_power hr (by decide) rfl (zaa (pv 1) (zaa (pv 0) (zaa (pv 2) yaa (by rfl)) (by rfl)) (by rfl)) (by decide) (by rfl) (by rfl)) (pv 0) (yal _)))) (fun _ _ _ _ _=>(pv 0)) (by intro _;rfl)) yaa (by rfl)) (by decide) (by decide) (by rfl) (by rfl))))),?_⟩
  refine ⟨_,rfl,a,_,_,_,rfl,rfl,hF,rfl,_,rfl,p,few,rfl,hp2,by omega,?_⟩
  dsimp only [zau]
  refine ⟨_,rfl,a,p,m,t,rfl,hF,hp2,by omega,?_⟩
  refine ⟨((p^m:Nat):Int),rfl,by omega,by omega,?_⟩
  refine zar zaK (fun k acc H'=>H'=H∧acc=(((List.range k).filter fun x=>decide (pw p m t x (p^few)=x)).map Vn)) ⟨rfl,rfl⟩ (fun _ _ _ _ _=>trivial) ?_ ?_ ?_
  · rintro k acc H' hk ⟨_,rfl⟩
    have:=List.length_filter_le (fun x=>decide (pw p m t x (p^few)=x)) (List.range k)
    rw [List.length_range] at this
    rw [List.length_map];exact zam (by omega)
  · rintro k acc x H' H'' hk ⟨rfl,rfl⟩ ⟨rfl,rfl⟩
    have hk2:k<p^m:=by omega
    refine ⟨_,rfl,_,rfl,_,rfl,a,p,m,t,k,((p^few:Nat):Int),?_,hF,G,hk2,by omega,?_⟩
    · rw [show (0+(k:Int))=(k:Int) by omega];rfl
    rw [zcI G hk2]
    refine ⟨_,rfl,rfl,_,rfl,?_⟩
    have ed:decide (Vn (pw p m t k (p^few))=V.int (0+(k:Int)))=decide (pw p m t k (p^few)=k):=by
      rw [show (0+(k:Int))=(k:Int) by omega]
      exact decide_eq_decide.mpr ⟨fun e=>Int.ofNat.inj (V.int.inj e),fun e=>by rw [e]⟩
    rw [ed,List.range_succ,List.filter_append]
    refine ite2 (fun c=>?_) (fun c=>?_)
    · have c':pw p m t k (p^few)=k:=of_decide_eq_true c
      refine ⟨_,rfl,rfl,?_⟩
      rw [List.map_append,show V.int (0+(k:Int))=Vn k from ybN (by omega)]
      simp [c']
    · have c':¬ pw p m t k (p^few)=k:=fun h=>c (decide_eq_true h)
      refine ⟨rfl,?_⟩
      simp [c']
  · rintro acc H1 ⟨rfl,rfl⟩ D hD
    rw [Int.toNat_natCast]
    have s1:=zac hD (.lst ((lets p m t few).map Vn))
    refine ⟨D,_,rfl,.inl ⟨SqL.of zab,fun r hr=>?_⟩⟩
    exact q r _ (s1.trans (zac hr _)) (s1.free hr) zab
theorem zb9:yaj ["wheel","thing","own"] ["wheel","thing"] (zad zaS):=⟨rfl,rfl,rfl,by decide +kernel,rfl,by decide +kernel,by decide +kernel⟩
theorem zf5 (B:Bl mg) (h_length:Has P w K mg base 5 "length" ["wheel"] (zdY K)) (h_letters:Has P w K mg base 6 "letters" ["field","few"] (zda K)) (h_is_whole:Has P w K mg base 1 "is_whole" ["thing"] (zgr K)) (F:Fun K "is_letters" "is_letters" zaS f fd):FnOk P w K mg base CX0 7 f fd ["wheel","thing"] (zeh K):=by
  refine F.ok zb9 (fun vs H Q E h=>?_) (fun cdv A outer s H vs Q E hr h=>?_)
  · obtain ⟨wh,fa,mk,p,m,t,few,root,n,marks,x,rfl,_⟩:=h;rfl
  obtain ⟨wh,fa,mk,p,m,t,few,root,n,marks,x,rfl,hW,hF,G,r0,rq,o,hn,hf6,hx⟩:=h
  refine ⟨_,(yab (@yba _ _ _ _ _ _ _ _ (@PW.pt _ _ _ (@yd4 _ _ _ _ _ _ _ (@yep _ _ _ _ (@zdy _ _ _ (zak zeM rfl (B "isinstance" (by decide)) PyProof.Rows.boot_isinstance (zaa (pv 1) (zaa (@zdu _ _ _ _ _ rfl (B "tuple" (by decide)) yaA (id (α:=RelV (.ty "tuple") (.type "tuple")) rfl) (by decide) (by decide)) yaa (by rfl)) (by rfl)) (by decide) (by decide) (by rfl) (by rfl)) (by intro _;rfl))) (@zcJ _ _ _ _ (@zai _ _ _ _ _ _ _ _ zdr (zak yah rfl (B "len" (by decide)) PySem.boot_len (zaa (pv 1) yaa (by rfl)) (by decide) (by decide) (by rfl) (by rfl)) (yad h_length hr (by decide) rfl (zaa (pv 0) yaa (by rfl)) (by decide) (by rfl) (by rfl)) (yal _))))) (zae (@zal _ _ _ _ yci)) zax) (yab (@zag _ _ 2 _ _ _ _ zb9.nd rfl (Or.inr rfl) (yad h_letters hr (by decide) rfl (zaa (zan yas (pv 0) yac (fun _ _=>rfl)) (zaa (zan yas (pv 0) yac (fun _ _=>rfl)) yaa (by rfl)) (by rfl)) (by decide) (by rfl) (by rfl)) (by rfl) (by trivial)) (zae (@zal _ _ _ _ (zak (zdt rfl) rfl (B "all" (by decide)) PyProof.Rows.boot_all (zaa (@yaM _ _ _ _ _ _ _ ["letter"] ["own"] [2] _ _ _ _ (id (α:=CSc ["wheel","thing","own"] (zad zaS) ["letter"] ["own"] [2] _) ⟨by rfl,by decide +kernel,by decide +kernel,by decide +kernel,by decide +kernel,by rfl,by decide +kernel⟩) rfl (@zcA _ _ _ _ (pv 1)) (fun cl C fp s H=>(@yae _ _ 0 _ (by show List.Nodup (["letter","own"]:List Str);decide +kernel) rfl (Or.inl rfl) (by trivial))) (fun _ _ _ _ _=>yaL) (fun _ _ _ _ _=>(@zeq _ _ _ _ _ _ _ (yad h_is_whole hr (by decide) rfl (zaa (pv 0) yaa (by rfl)) (by decide) (by rfl) (by rfl)) (@yeq _ _ _ _ _ (@ycn _ _ _ _ _ _ _ _ (zeQ (K:=K) rfl) (pv 0) (pv 1) (by with_unfolding_all rfl))))) (by intro _;rfl)) yaa (by rfl)) (by decide) (by decide) (by rfl) (by rfl)))))),?_⟩
  rcases hx with ⟨⟨T,hk,hT⟩,q⟩ | ⟨a,xs,rfl,ha,hq⟩
  · refine ⟨_,rfl,x,T,rfl,hk,_,rfl,?_⟩
    have e:subK T "tuple"=false:=by unfold subK;simp [hT]
    rw [e]
    refine ite2 (fun _=>?_) (fun c=>absurd rfl c)
    refine ite2 (fun _=>?_) (fun c=>absurd rfl c)
    exact q _ (Same.refl _)
  refine ⟨_,rfl,.ref a,"tuple",rfl,.inl (.inr ⟨rfl,xs,ha⟩),_,rfl,?_⟩
  refine ite2 (fun c=>absurd c (by decide)) (fun _=>?_)
  refine ⟨_,rfl,a,xs,rfl,.inr ha,_,rfl,wh,fa,p,m,t,few,root,_,rfl,SqT.of hW.w,hF,G,r0,rq,fun n' o' _=>?_⟩
  cases o'.uniq o
  have ed:decide (V.int (xs.length:Int)=Vn n)=decide (xs.length=n):=decide_eq_decide.mpr ⟨fun e=>by injection e with e;omega,fun e=>by rw [e]⟩
  refine ⟨rfl,_,rfl,?_⟩
  rw [ed]
  rcases hq with ⟨hl,q⟩ | ⟨hl,hkd,q⟩
  · rw [decide_eq_false hl]
    refine ite2 (fun _=>?_) (fun c=>absurd rfl c)
    exact q _ (Same.refl _)
  rw [decide_eq_true hl]
  refine ite2 (fun c=>absurd c (by decide)) (fun _=>?_)
  dsimp only [ze9]
  refine ⟨_,rfl,wh,_,_,.ref fa,rfl,rfl,SqT.of hW.w,rfl,_,rfl,wh,_,_,Vn few,rfl,rfl,SqT.of hW.w,rfl,fa,p,m,t,few,rfl,hF,G,hf6,fun ow H1 s1 now eow=>?_⟩
  dsimp only [zau]
  refine ⟨_,rfl,a,rfl,⟨_,Same.tup s1 ha⟩,?_⟩
  refine zar (ybL (xs:=xs)) (fun i acc H'=>H'=H1∧acc=(xs.take i).map fun e=>V.bl (letV (lets p m t few) e)) ⟨rfl,rfl⟩ (fun i acc H' _ h=>by rw [h.1];exact Same.tup s1 ha) ?_ ?_ ?_
  · rintro i acc H' hi ⟨_,rfl⟩
    rw [List.length_map,List.length_take];exact zam (by omega)
  · rintro i acc z H2 H2' hi ⟨rfl,rfl⟩ ⟨rfl,ez⟩
    have hz:z∈xs:=List.mem_of_getElem? ez
    obtain ⟨T,hk⟩:=hkd z hz
    have fin:∀b,letV (lets p m t few) z=b→H2'=H2'∧(xs.take i).map (fun e=>V.bl (letV (lets p m t few) e))++[V.bl b]=(xs.take (i+1)).map fun e=>V.bl (letV (lets p m t few) e):=fun b hb=>by
      refine ⟨rfl,?_⟩
      rw [ya4 ez,List.map_append,←hb];rfl
    refine ⟨_,rfl,z,T,rfl,zch s1 hk,_,rfl,?_⟩
    refine ite2 (fun c=>?_) (fun c=>?_)
    · have hT:T = "int":=eq_of_beq c
      subst hT
      obtain ⟨k,rfl⟩:=zfW hk
      refine ⟨_,rfl,_,rfl,ow,_,rfl,.inr (SqT.of eow),rfl,zcj _,?_⟩
      exact fin _ rfl
    · exact fin false (ygM hk fun e=>c (by rw [e];rfl))
  · rintro acc H2 ⟨rfl,rfl⟩ D hD
    rw [List.take_length]
    refine ⟨D,xs.map (letV (lets p m t few)),rfl,SqL.of (by rw [zab,List.map_map];rfl),?_⟩
    have e:(xs.map (letV (lets p m t few))).all id=xs.all (letV (lets p m t few)):=by rw [List.all_map];rfl
    dsimp only
    rw [e]
    exact q _ (s1.trans (zac hD _))
def zdV (K:PySem.W.Frag):Sp:=fun vs H Q _=>∃(wh fa mk:Addr) (p m t few root n:Nat) (marks:List Nat) (x:V),vs=[.ref wh,x]∧WhAt H wh fa mk few root marks∧Fld K H fa p m t∧Good p m t∧Whl p m t few root n marks∧n≤64∧
  ((OddT K H n (p^m) x∧∀H',Same H H'→Q (.bl false) H')∨∃a row,x = .ref a∧SqT K H a (row.map Vn)∧row.length=n∧(∀y∈row,y∈lets p m t few)∧∀H',Same H H'→Q (.bl (isW p m t root marks row)) H')
theorem ybl:yaj ["wheel","thing","field","few","root","marks","mark"] ["wheel","thing"] (zad ybE):=⟨rfl,rfl,rfl,by decide +kernel,rfl,by decide +kernel,by decide +kernel⟩
theorem yfP (B:Bl mg) (h_is_letters:Has P w K mg base 7 "is_letters" ["wheel","thing"] (zeh K)) (h_value:Has P w K mg base 4 "value" ["field","row","one"] (yek K)) (h_power:Has P w K mg base 5 "power" ["field","one","many"] (zdl K)) (F:Fun K "is_word" "is_word" ybE f fd):FnOk P w K mg base CX0 8 f fd ["wheel","thing"] (zdV K):=by
  refine F.ok ybl (fun vs H Q E h=>?_) (fun cdv A outer s H vs Q E hr h=>?_)
  · obtain ⟨wh,fa,mk,p,m,t,few,root,n,marks,x,rfl,_⟩:=h;rfl
  obtain ⟨wh,fa,mk,p,m,t,few,root,n,marks,x,rfl,hW,hF,G,W,hn,hx⟩:=h
  have hf6:few≤6:=Nat.le_trans (Nat.le_of_dvd (by have:=G.hm;omega) (Nat.dvd_of_mod_eq_zero W.fewm)) (m_le G.hp G.hq)
  refine ⟨_,(yab (@yba _ _ _ _ _ _ _ _ (@yep _ _ _ _ (@zdy _ _ _ (yad h_is_letters hr (by decide) rfl (zaa (pv 0) (zaa (pv 1) yaa (by rfl)) (by rfl)) (by decide) (by rfl) (by rfl)) (by intro _;rfl))) (zae (@zal _ _ _ _ yci)) zax) (yab (@za6 _ _ _ _ _ _ (pv 0) (@ya8 _ _ _ _ _ _ rfl (zah (@yae _ _ 2 _ ybl.nd rfl (Or.inl rfl) (by trivial)) (zah (@yae _ _ 3 _ ybl.nd rfl (Or.inl rfl) (by trivial)) (zah (@yae _ _ 4 _ ybl.nd rfl (Or.inl rfl) (by trivial)) (zah (@yae _ _ 5 _ ybl.nd rfl (Or.inl rfl) (by trivial)) yaH (by rfl)) (by rfl)) (by rfl)) (by rfl)) (by rfl) (by rfl)) (by rfl) (by rfl) (by rfl)) (yab (@yaD _ _ _ _ _ _ _ _ PassesOwn.never rfl (@zcA _ _ _ _ (pv 5)) (@yae _ _ 6 _ ybl.nd rfl (Or.inl rfl) (by trivial)) (zae (@yba _ _ _ _ _ _ _ _ (@zai _ _ _ _ _ _ _ _ zdr (yad h_value hr (by decide) rfl (zaa (pv 2) (zaa (pv 1) (zaa (yad h_power hr (by decide) rfl (zaa (pv 2) (zaa (pv 4) (zaa (pv 6) yaa (by rfl)) (by rfl)) (by rfl)) (by decide) (by rfl) (by rfl)) yaa (by rfl)) (by rfl)) (by rfl)) (by decide) (by rfl) (by rfl)) yac (yal _)) (zae (@zal _ _ _ _ yci)) zax)) (by intro _;rfl)) (zae (@zal _ _ _ _ yci))))),?_⟩
  rcases hx with ⟨hx,q⟩ | ⟨a,row,rfl,ha,hl,hlet,q⟩
  · have no:∀H',Same H H'→(∃c,V.bl false = .bl c∧(if (!c)=true then Q (.bl false) H' else True)):=fun H' s'=>⟨false,rfl,q H' s'⟩
    rcases hx with hk | ⟨a,xs,rfl,ha,hq⟩
    · refine ⟨_,rfl,_,rfl,wh,fa,mk,p,m,t,few,root,n,marks,x,rfl,hW,hF,G,W.r0,W.rq,W.ord,hn,hf6,.inl ⟨hk,fun H' s'=>?_⟩⟩
      refine ⟨false,rfl,?_⟩
      refine ite2 (fun _=>?_) (fun c=>absurd rfl c)
      exact q _ s'
    · refine ⟨_,rfl,_,rfl,wh,fa,mk,p,m,t,few,root,n,marks,.ref a,rfl,hW,hF,G,W.r0,W.rq,W.ord,hn,hf6,.inr ⟨a,xs,rfl,ha,?_⟩⟩
      rcases hq with hq | ⟨h1,h2,e,he,hb⟩
      · refine .inl ⟨hq,fun H' s'=>?_⟩
        refine ⟨false,rfl,?_⟩
        refine ite2 (fun _=>?_) (fun c=>absurd rfl c)
        exact q _ s'
      · refine .inr ⟨h1,h2,fun H' s'=>?_⟩
        have ef:xs.all (letV (lets p m t few))=false:=by
          cases c:xs.all (letV (lets p m t few)) with
          | false=>rfl
          | true=>rw [←yg1 (ls:=lets p m t few) zbL hb];exact (List.all_eq_true.mp c e he).symm
        rw [ef]
        refine ⟨false,rfl,?_⟩
        refine ite2 (fun _=>?_) (fun c=>absurd rfl c)
        exact q _ s'
  have hrow:∀y∈row,y<p^m:=fun y hy=>zbL y (hlet y hy)
  refine ⟨_,rfl,_,rfl,wh,fa,mk,p,m,t,few,root,n,marks,.ref a,rfl,hW,hF,G,W.r0,W.rq,W.ord,hn,hf6,.inr ⟨a,row.map Vn,rfl,ha,.inr ⟨by rw [List.length_map];exact hl,fun e he=>?_,fun H1 s1=>?_⟩⟩⟩
  · obtain ⟨y,_,rfl⟩:=List.mem_map.mp he
    exact ⟨"int",.inl rfl⟩
  have et:(row.map Vn).all (letV (lets p m t few))=true:=by
    rw [List.all_eq_true]
    intro e he
    obtain ⟨y,hy,rfl⟩:=List.mem_map.mp he
    show inV (Vn y) _=true
    rw [ycd];exact decide_eq_true (hlet y hy)
  rw [et]
  refine ⟨true,rfl,?_⟩
  refine ite2 (fun c=>absurd c (by decide)) (fun _=>?_)
  dsimp only [ze9]
  have hW1:=hW.same s1
  refine ⟨_,rfl,wh,_,rfl,SqT.of hW1.w,rfl,_,_,rfl,_,_,rfl,_,_,rfl,_,_,rfl,rfl,?_⟩
  dsimp only [zau]
  refine ⟨_,rfl,mk,rfl,⟨_,SqT.of hW1.k⟩,?_⟩
  refine zbb (ybL (xs:=marks.map Vn)) (fun i σ H'=>H'=H1∧(∀k∈marks.take i,val p m t (pw p m t root k) row=0)∧∃s6,σ=[some (.ref wh),some (.ref a),some (.ref fa),some (Vn few),some (Vn root),some (.ref mk),s6]) ⟨rfl,fun k hk=>absurd hk (by simp),none,rfl⟩ (fun i σ H' _ h=>by rw [h.1];exact SqT.of hW1.k) ?_ ?_
  · rintro i z σ H2 H2' hi ⟨rfl,hz,s6,rfl⟩ ⟨rfl,ez⟩
    rw [List.length_map] at hi
    rw [zat hi] at ez
    cases ez
    have hk:marks[i]?=some (marks.getD i 0):=by rw [List.getElem?_eq_getElem hi];simp [List.getD,hi]
    have hmem:marks.getD i 0∈marks:=List.mem_of_getElem? hk
    generalize marks.getD i 0=k at hk hmem ⊢
    dsimp only [zau]
    refine ⟨_,rfl,_,rfl,_,rfl,_,rfl,_,rfl,fa,p,m,t,root,(k:Int),rfl,Same.tup s1 hF,G,W.rq,fun h=>absurd h (by have:=W.r0;omega),?_⟩
    rw [zcI G W.rq]
    refine ⟨fa,a,p,m,t,_,_,rfl,Same.tup s1 hF,G,Same.tup s1 ha,hrow,zbo G.hp G.hm _ _,?_⟩
    refine ⟨rfl,_,rfl,?_⟩
    rw [yb2]
    refine ite2 (fun c=>?_) (fun c=>?_)
    · have hne:val p m t (pw p m t root k) row≠0:=fun e=>by rw [decide_eq_true e] at c;exact absurd c (by decide)
      have ef:isW p m t root marks row=false:=by
        cases c:isW p m t root marks row with
        | false=>rfl
        | true=>exact absurd (of_decide_eq_true (List.all_eq_true.mp c k hmem)) hne
      rw [←ef]
      exact q _ s1
    · have he:val p m t (pw p m t root k) row=0:=Decidable.byContradiction fun e=>c (by rw [decide_eq_false e];rfl)
      refine ⟨rfl,fun k' hk'=>?_,_,rfl⟩
      rw [ya4 hk] at hk'
      rcases List.mem_append.mp hk' with h|h
      · exact hz k' h
      · rw [List.mem_singleton.mp h];exact he
  · rw [List.length_map]
    rintro σ H2 ⟨rfl,hz,s6,rfl⟩
    rw [List.take_length] at hz
    have et2:isW p m t root marks row=true:=List.all_eq_true.mpr fun k hk=>decide_eq_true (hz k hk)
    rw [et2] at q
    exact q _ s1
def unl (xs ys:List Nat) (n:Nat):List Nat:=(List.range n).filter fun k=>!decide (xs.getD k 0=ys.getD k 0)
theorem ye2 (xs ys:List Nat) (n:Nat):(unl xs ys n).length≤n:=by
  have:=List.length_filter_le (fun k=>!decide (xs.getD k 0=ys.getD k 0)) (List.range n)
  rw [List.length_range] at this;exact this
theorem yf3 (xs ys:List Nat) (k:Nat):unl xs ys (k+1)=unl xs ys k++(if (!decide (xs.getD k 0=ys.getD k 0))=true then [k] else []):=by
  unfold unl
  rw [List.range_succ,List.filter_append]
  congr 1
  by_cases c:(!decide (xs.getD k 0=ys.getD k 0))=true
  · rw [List.filter_cons,if_pos c,if_pos c];rfl
  · rw [List.filter_cons,if_neg c,if_neg c];rfl
theorem zgi (xs ys:List Nat) (n:Nat):unl xs ys n=unl ys xs n:=by
  unfold unl
  refine List.filter_congr fun k _=>?_
  rw [decide_eq_decide.mpr (Eq.comm)]
def unL (ls xs ys:List Nat) (n:Nat):List Nat:=(List.range n).filter fun k=>!decide (k∈ls)&&!decide (xs.getD k 0=ys.getD k 0)
theorem ygB (ls xs ys:List Nat) (n:Nat):(unL ls xs ys n).length≤n:=by
  have:=List.length_filter_le (fun k=>!decide (k∈ls)&&!decide (xs.getD k 0=ys.getD k 0)) (List.range n)
  rw [List.length_range] at this;exact this
theorem yf8 (ls xs ys:List Nat) (k:Nat):unL ls xs ys (k+1)=unL ls xs ys k++(if (!decide (k∈ls)&&!decide (xs.getD k 0=ys.getD k 0))=true then [k] else []):=by
  unfold unL
  rw [List.range_succ,List.filter_append]
  congr 1
  by_cases c:(!decide (k∈ls)&&!decide (xs.getD k 0=ys.getD k 0))=true
  · rw [List.filter_cons,if_pos c,if_pos c];rfl
  · rw [List.filter_cons,if_neg c,if_neg c];rfl
theorem yhi (ls xs ys:List Nat) (n:Nat):(unl ys xs n).filter (fun k=>!decide (k∈ls))=unL ls xs ys n:=by
  rw [zgi]
  unfold unl unL
  rw [List.filter_filter]
def ydO (K:PySem.W.Frag):Sp:=fun vs H Q _=>∃(a b l:Addr) (ls xs ys:List Nat),vs=[.ref a,.ref b,.ref l]∧SqT K H a (xs.map Vn)∧SqT K H b (ys.map Vn)∧SqT K H l (ls.map Vn)∧ys.length=xs.length∧xs.length≤64∧∀H',Same H H'→Q (Vn (unL ls xs ys xs.length).length) H'
theorem yfN:yaj ["one","other","lost"] ["one","other","lost"] (zad ybJ):=⟨rfl,rfl,rfl,by decide +kernel,rfl,by decide +kernel,by decide +kernel⟩
theorem zfl (B:Bl mg) (F:Fun K "unlike" "unlike" ybJ f fd):FnOk P w K mg base CX0 1 f fd ["one","other","lost"] (ydO K):=by
  refine F.ok yfN (fun vs H Q E h=>?_) (fun cdv A outer s H vs Q E hr h=>?_)
  · obtain ⟨a,b,l,ls,xs,ys,rfl,_⟩:=h;rfl
  obtain ⟨a,b,l,ls,xs,ys,rfl,ha,hb,hl,hlen,h64,q⟩:=h
  refine ⟨_,(zae (@zal _ _ _ _ (zak yah rfl (B "len" (by decide)) PySem.boot_len (zaa (@yaM _ _ _ _ _ _ _ ["k"] ["lost","one","other"] [2,0,1] _ _ _ _ (id (α:=CSc ["one","other","lost"] (zad ybJ) ["k"] ["lost","one","other"] [2,0,1] _) ⟨by rfl,by decide +kernel,by decide +kernel,by decide +kernel,by decide +kernel,by rfl,by decide +kernel⟩) rfl (@yau _ _ _ _ _ _ rfl (B "range" (by decide)) (zaa (zak yah rfl (B "len" (by decide)) PySem.boot_len (zaa (pv 0) yaa (by rfl)) (by decide) (by decide) (by rfl) (by rfl)) yaa (by rfl)) (by rfl)) (fun cl C fp s H=>(@yae _ _ 0 _ (by show List.Nodup (["k","lost","one","other"]:List Str);decide +kernel) rfl (Or.inl rfl) (by trivial))) (fun _ _ _ _ _=>(@ybd _ _ _ (@PW.pt _ _ _ (@zfP _ _ _ _ _ _ _ (@zai _ _ _ _ _ _ _ _ (zca (K:=K) rfl) (pv 0) (pv 1) (by with_unfolding_all rfl)) (@zea _ _ _ _ (@zai _ _ _ _ _ _ _ _ zdr (zan (ybg (K:=K) rfl) (pv 2) (pv 0) (fun _ _=>rfl)) (zan (ybg (K:=K) rfl) (pv 3) (pv 0) (fun _ _=>rfl)) (yal _))))))) (fun _ _ _ _ _=>(pv 0)) (by intro _;rfl)) yaa (by rfl)) (by decide) (by decide) (by rfl) (by rfl)))),?_⟩
  refine ⟨_,rfl,a,_,rfl,.inr ha,(xs.length:Int),by rw [List.length_map],by omega,by omega,?_⟩
  refine zar zaK (fun k acc H'=>H'=H∧acc=(unL ls xs ys k).map Vn) ⟨rfl,rfl⟩ (fun _ _ _ _ _=>trivial) ?_ ?_ ?_
  · rintro k acc H' hk ⟨_,rfl⟩
    have:=ygB ls xs ys k
    rw [Int.toNat_natCast] at hk
    rw [List.length_map];exact zam (by omega)
  · rintro k acc z H1 H1' hk ⟨rfl,rfl⟩ ⟨rfl,rfl⟩
    rw [Int.toNat_natCast] at hk
    have ed:decide (Vn (xs.getD k 0)=Vn (ys.getD k 0))=decide (xs.getD k 0=ys.getD k 0):=decide_eq_decide.mpr ⟨fun e=>by injection e with e;omega,fun e=>by rw [e]⟩
    have e0:V.int (0+(k:Int))=Vn k:=ybN (Int.zero_add _)
    refine ⟨_,rfl,_,rfl,l,_,rfl,.inr hl,rfl,zcj _,_,rfl,?_⟩
    rw [e0,ycd,yf8]
    refine ite2 (fun c1=>?_) (fun c1=>?_)
    · refine ⟨_,rfl,_,rfl,a,_,_,Vn (xs.getD k 0),rfl,rfl,ha,yaw (zat hk),_,rfl,_,rfl,b,_,_,Vn (ys.getD k 0),rfl,rfl,hb,yaw (zat (by omega)),?_⟩
      refine ⟨rfl,_,rfl,?_⟩
      have c1:(!decide (k∈ls))=true:=c1
      rw [ed,c1,Bool.true_and]
      refine ite2 (fun c=>?_) (fun c=>?_)
      · refine ⟨_,rfl,rfl,?_⟩
        rw [if_pos c,List.map_append];rfl
      · refine ⟨rfl,?_⟩
        rw [if_neg c,List.append_nil]
    · have c2:(!decide (k∈ls))=false:=Bool.eq_false_iff.mpr c1
      refine ite2 (fun c=>absurd c (by decide)) (fun _=>?_)
      rw [c2]
      exact ⟨rfl,by rw [Bool.false_and,if_neg (by decide),List.append_nil]⟩
  · rw [Int.toNat_natCast]
    rintro acc H1 ⟨rfl,rfl⟩ D hD
    refine ⟨D,_,rfl,.inl (SqL.of zab),?_⟩
    rw [List.length_map]
    exact q _ (zac hD _)
def yc8 (K:PySem.W.Frag):Sp:=fun vs H Q _=>∃(a b:Addr) (xs ys:List Nat),vs=[.ref a,.ref b]∧SqT K H a (xs.map Vn)∧SqT K H b (ys.map Vn)∧ys.length=xs.length∧xs.length≤64∧∀r H',Same H H'→H' r=some (.lst ((unl xs ys xs.length).map Vn))→Q (.ref r) H'
theorem ycW:yaj ["_law_one","_law_other"] ["_law_one","_law_other"] (zad zaH):=⟨rfl,rfl,rfl,by decide +kernel,rfl,by decide +kernel,by decide +kernel⟩
theorem yeP (B:Bl mg) (F:Fun K "_law_unlike" "_law_unlike" zaH f fd):FnOk P w K mg base CX0 1 f fd ["_law_one","_law_other"] (yc8 K):=by
  refine F.ok ycW (fun vs H Q E h=>?_) (fun cdv A outer s H vs Q E hr h=>?_)
  · obtain ⟨a,b,xs,ys,rfl,_⟩:=h;rfl
  obtain ⟨a,b,xs,ys,rfl,ha,hb,hlen,h64,q⟩:=h
  refine ⟨_,(zae (@zal _ _ _ _ (@yaM _ _ _ _ _ _ _ ["_law_place"] ["_law_one","_law_other"] [0,1] _ _ _ _ (id (α:=CSc ["_law_one","_law_other"] (zad zaH) ["_law_place"] ["_law_one","_law_other"] [0,1] _) ⟨by rfl,by decide +kernel,by decide +kernel,by decide +kernel,by decide +kernel,by rfl,by decide +kernel⟩) rfl (@yau _ _ _ _ _ _ rfl (B "range" (by decide)) (zaa (zak yah rfl (B "len" (by decide)) PySem.boot_len (zaa (pv 0) yaa (by rfl)) (by decide) (by decide) (by rfl) (by rfl)) yaa (by rfl)) (by rfl)) (fun cl C fp s H=>(@yae _ _ 0 _ (by show List.Nodup (["_law_place","_law_one","_law_other"]:List Str);decide +kernel) rfl (Or.inl rfl) (by trivial))) (fun _ _ _ _ _=>(@ybd _ _ _ (@zai _ _ _ _ _ _ _ _ zdr (zan (ybg (K:=K) rfl) (pv 1) (pv 0) (fun _ _=>rfl)) (zan (ybg (K:=K) rfl) (pv 2) (pv 0) (fun _ _=>rfl)) (yal _)))) (fun _ _ _ _ _=>(pv 0)) (by intro _;rfl)))),?_⟩
  refine ⟨_,rfl,a,_,rfl,.inr ha,(xs.length:Int),by rw [List.length_map],by omega,by omega,?_⟩
  refine zar zaK (fun k acc H'=>H'=H∧acc=(unl xs ys k).map Vn) ⟨rfl,rfl⟩ (fun _ _ _ _ _=>trivial) ?_ ?_ ?_
  · rintro k acc H' hk ⟨_,rfl⟩
    have:=ye2 xs ys k
    rw [Int.toNat_natCast] at hk
    rw [List.length_map];exact zam (by omega)
  · rintro k acc z H1 H1' hk ⟨rfl,rfl⟩ ⟨rfl,rfl⟩
    rw [Int.toNat_natCast] at hk
    have ed:decide (Vn (xs.getD k 0)=Vn (ys.getD k 0))=decide (xs.getD k 0=ys.getD k 0):=decide_eq_decide.mpr ⟨fun e=>by injection e with e;omega,fun e=>by rw [e]⟩
    refine ⟨_,rfl,_,rfl,a,_,_,Vn (xs.getD k 0),rfl,rfl,ha,by rw [Int.zero_add];exact yaw (zat hk),_,rfl,_,rfl,b,_,_,Vn (ys.getD k 0),rfl,rfl,hb,by rw [Int.zero_add];exact yaw (zat (by omega)),?_⟩
    refine ⟨rfl,_,rfl,?_⟩
    rw [ed,yf3]
    refine ite2 (fun c=>?_) (fun c=>?_)
    · refine ⟨_,rfl,rfl,?_⟩
      rw [if_pos c,List.map_append,show V.int (0+(k:Int))=Vn k from ybN (Int.zero_add _)];rfl
    · refine ⟨rfl,?_⟩
      rw [if_neg c,List.append_nil]
  · rw [Int.toNat_natCast]
    rintro acc H1 ⟨rfl,rfl⟩ D hD
    exact q D _ (zac hD _) zab
def shB (p m t root np:Nat) (marks row got ls:List Nat):Bool:=isW p m t root marks row&&decide (2*(unL ls row got row.length).length+ls.length≤np)
def zev (K:PySem.W.Frag):Sp:=fun vs H Q _=>∃(wh fa mk pp ga lo:Addr) (p m t few root n f s np:Nat) (marks got ls:List Nat) (x:V),vs=[.ref wh,.ref pp,.ref ga,.ref lo,x]∧WhAt H wh fa mk few root marks∧Fld K H fa p m t∧Good p m t∧Whl p m t few root n marks∧n≤64∧SqT K H pp [Vn f,Vn s,Vn np]∧SqT K H ga (got.map Vn)∧SqT K H lo (ls.map Vn)∧got.length=n∧
  ((OddT K H n (p^m) x∧∀H',Same H H'→Q (.bl false) H')∨∃a row,x = .ref a∧SqT K H a (row.map Vn)∧row.length=n∧(∀y∈row,y∈lets p m t few)∧∀H',Same H H'→Q (.bl (shB p m t root np marks row got ls)) H')
theorem zdg:yaj ["wheel","paper","got","lost","thing"] ["wheel","paper","got","lost","thing"] (zad za0):=⟨rfl,rfl,rfl,by decide +kernel,rfl,by decide +kernel,by decide +kernel⟩
theorem ygf (B:Bl mg) (h_is_word:Has P w K mg base 8 "is_word" ["wheel","thing"] (zdV K)) (h_unlike:Has P w K mg base 1 "unlike" ["one","other","lost"] (ydO K)) (F:Fun K "shows_lost" "shows_lost" za0 f fd):FnOk P w K mg base CX0 9 f fd ["wheel","paper","got","lost","thing"] (zev K):=by
  refine F.ok zdg (fun vs H Q E h=>?_) (fun cdv A outer s H vs Q E hr h=>?_)
  · obtain ⟨wh,fa,mk,pp,ga,lo,p,m,t,few,root,n,f,s,np,marks,got,ls,x,rfl,_⟩:=h;rfl
  obtain ⟨wh,fa,mk,pp,ga,lo,p,m,t,few,root,n,f,s,np,marks,got,ls,x,rfl,hW,hF,G,W,hn,hpp,hga,hlo,hgl,hx⟩:=h
  refine ⟨_,(zae (@zal _ _ _ _ (@zeq _ _ _ _ _ _ _ (yad h_is_word hr (by decide) rfl (zaa (pv 0) (zaa (pv 4) yaa (by rfl)) (by rfl)) (by decide) (by rfl) (by rfl)) (@yeq _ _ _ _ _ (@ycn _ _ _ _ _ _ _ _ zgD (yaf yaX yac (yad h_unlike hr (by decide) rfl (zaa (pv 4) (zaa (pv 2) (zaa (pv 3) yaa (by rfl)) (by rfl)) (by rfl)) (by decide) (by rfl) (by rfl))) (yaf ybq (zan yas (pv 1) yac (fun _ _=>rfl)) (zak yah rfl (B "len" (by decide)) PySem.boot_len (zaa (pv 3) yaa (by rfl)) (by decide) (by decide) (by rfl) (by rfl))) (yal _)))))),?_⟩
  rcases hx with ⟨hx,q⟩ | ⟨a,row,rfl,ha,hl,hlet,q⟩
  · refine ⟨_,rfl,_,rfl,wh,fa,mk,p,m,t,few,root,n,marks,x,rfl,hW,hF,G,W,hn,.inl ⟨hx,fun H' s'=>?_⟩⟩
    refine ⟨false,rfl,?_⟩
    refine ite2 (fun c=>absurd c (by decide)) (fun _=>?_)
    exact q _ s'
  refine ⟨_,rfl,_,rfl,wh,fa,mk,p,m,t,few,root,n,marks,.ref a,rfl,hW,hF,G,W,hn,.inr ⟨a,row,rfl,ha,hl,hlet,fun H1 s1=>?_⟩⟩
  refine ⟨_,rfl,?_⟩
  refine ite2 (fun c=>?_) (fun c=>?_)
  · refine ⟨_,rfl,_,rfl,_,rfl,a,ga,lo,ls,row,got,rfl,Same.tup s1 ha,Same.tup s1 hga,Same.tup s1 hlo,by omega,by omega,fun H3 s3=>?_⟩
    refine ⟨_,_,rfl,rfl,.inl ⟨by decide,by decide⟩,?_⟩
    refine ⟨_,rfl,pp,_,_,Vn np,rfl,rfl,Same.tup (s1.trans s3) hpp,rfl,?_⟩
    refine ⟨_,rfl,lo,_,rfl,.inr (Same.tup (s1.trans s3) hlo),?_⟩
    refine ⟨_,_,rfl,rfl,?_⟩
    refine ⟨_,_,rfl,rfl,?_⟩
    have e:decide ((2:Int)*((unL ls row got row.length).length:Int)≤(np:Int)-((ls.map Vn).length:Int))=shB p m t root np marks row got ls:=by
      unfold shB
      rw [c,Bool.true_and,List.length_map]
      exact decide_eq_decide.mpr (by omega)
    dsimp only
    rw [e]
    exact q _ (s1.trans s3)
  · have e:shB p m t root np marks row got ls=false:=by unfold shB;rw [Bool.eq_false_iff.mpr c];rfl
    rw [←e];exact q _ s1
def ygr (K:PySem.W.Frag):Sp:=fun vs H Q _=>∃(tb fa pa la wh mk a:Addr) (p m t b few root:Nat) (marks row:List Nat),vs=[.ref tb,.ref wh,.ref a]∧Tab H tb fa pa la p m t b∧WhAt H wh fa mk few root marks∧root<p^m∧marks.length≤64∧SqT K H a (row.map Vn)∧(∀x∈row,x<p^m)∧∀H',Same H H'→Q (.bl (isW p m t root marks row)) H'
theorem ycT:yaj ["_law_table_here","_law_wheel_here","_law_word"] ["_law_table_here","_law_wheel_here","_law_word"] (zad yaC):=⟨rfl,rfl,rfl,by decide +kernel,rfl,by decide +kernel,by decide +kernel⟩
theorem zhf (B:Bl mg) (h__law_value:Has P w K mg base 2 "_law_value" ["_law_table_here","_law_row","_law_one"] (zet K)) (h__law_power:Has P w K mg base 1 "_law_power" ["_law_table_here","_law_one","_law_many"] ycv) (F:Fun K "_law_is_word" "_law_is_word" yaC f fd):FnOk P w K mg base CX0 3 f fd ["_law_table_here","_law_wheel_here","_law_word"] (ygr K):=by
  refine F.ok ycT (fun vs H Q E h=>?_) (fun cdv A outer s H vs Q E hr h=>?_)
  · obtain ⟨tb,fa,pa,la,wh,mk,a,p,m,t,b,few,root,marks,row,rfl,_⟩:=h;rfl
  obtain ⟨tb,fa,pa,la,wh,mk,a,p,m,t,b,few,root,marks,row,rfl,T,hW,hroot,hml,ha,hrow,q⟩:=h
  have G:=T.good
  refine ⟨_,(zae (@zal _ _ _ _ (zak (zdt rfl) rfl (B "all" (by decide)) PyProof.Rows.boot_all (zaa (@yaM _ _ _ _ _ _ _ ["_law_mark"] ["_law_table_here","_law_word","_law_wheel_here"] [0,2,1] _ _ _ _ (id (α:=CSc ["_law_table_here","_law_wheel_here","_law_word"] (zad yaC) ["_law_mark"] ["_law_table_here","_law_word","_law_wheel_here"] [0,2,1] _) ⟨by rfl,by decide +kernel,by decide +kernel,by decide +kernel,by decide +kernel,by rfl,by decide +kernel⟩) rfl (@zcA _ _ _ _ (zan yas (pv 1) yac (fun _ _=>rfl))) (fun cl C fp s H=>(@yae _ _ 0 _ (by show List.Nodup (["_law_mark","_law_table_here","_law_word","_law_wheel_here"]:List Str);decide +kernel) rfl (Or.inl rfl) (by trivial))) (fun _ _ _ _ _=>yaL) (fun _ _ _ _ _=>(@ycn _ _ _ _ _ _ _ _ zbr (yad h__law_value hr (by decide) rfl (zaa (pv 1) (zaa (pv 2) (zaa (yad h__law_power hr (by decide) rfl (zaa (pv 1) (zaa (zan (ybg (K:=K) rfl) (pv 3) yac (fun _ _=>rfl)) (zaa (pv 0) yaa (by rfl)) (by rfl)) (by rfl)) (by decide) (by rfl) (by rfl)) yaa (by rfl)) (by rfl)) (by rfl)) (by decide) (by rfl) (by rfl)) yac (yal _))) (by intro _;rfl)) yaa (by rfl)) (by decide) (by decide) (by rfl) (by rfl)))),?_⟩
  refine ⟨_,rfl,wh,_,_,_,rfl,rfl,SqT.of hW.w,rfl,mk,rfl,⟨_,SqT.of hW.k⟩,?_⟩
  refine zar (ybL (xs:=marks.map Vn)) (fun i acc H'=>Same H H'∧acc=((marks.take i).map fun i=>V.bl (decide (val p m t (pw p m t root i) row=0)))) ⟨Same.refl _,rfl⟩ (fun i acc H' _ h=>SqT.of (h.1 _ _ hW.k)) ?_ ?_ ?_
  · rintro i acc H' hi ⟨_,rfl⟩
    rw [List.length_map] at hi
    rw [List.length_map,List.length_take];exact zam (by omega)
  · rintro i acc z H1 H1' hi ⟨s1,rfl⟩ ⟨rfl,ez⟩
    rw [List.length_map] at hi
    rw [zat hi] at ez
    cases ez
    refine ⟨_,rfl,_,rfl,_,rfl,_,rfl,wh,_,_,_,rfl,rfl,SqT.of (s1 _ _ hW.w),rfl,_,rfl,tb,fa,pa,la,p,m,t,b,root,((marks.getD i 0:Nat):Int),rfl,T.same s1,hroot,?_⟩
    rw [zcI G hroot]
    refine ⟨tb,fa,pa,la,a,p,m,t,b,_,row,rfl,T.same s1,Same.tup s1 ha,hrow,zbo G.hp G.hm _ _,fun H2 s2=>⟨rfl,s1.trans s2,?_⟩⟩
    rw [List.take_add_one,List.map_append]
    congr 1
    have e:marks[i]?=some (marks.getD i 0):=by rw [List.getElem?_eq_getElem hi];simp [List.getD,hi]
    rw [e]
    show [V.bl _]=[V.bl _]
    rw [yb2]
  · rintro acc H1 ⟨s1,rfl⟩ D hD
    rw [List.length_map,List.take_length]
    refine ⟨D,marks.map (fun i=>decide (val p m t (pw p m t root i) row=0)),rfl,SqL.of (by rw [zab,List.map_map];rfl),?_⟩
    have e:(marks.map (fun i=>decide (val p m t (pw p m t root i) row=0))).all id=isW p m t root marks row:=by
      unfold isW;rw [List.all_map];rfl
    dsimp only
    rw [e]
    exact q _ (s1.trans (zac hD _))
def zek (K:PySem.W.Frag):Sp:=fun vs H Q _=>∃(tb fa pa la wh mk pp ga lo a:Addr) (p m t b few root n f s np:Nat) (marks got row ls:List Nat),vs=[.ref tb,.ref wh,.ref pp,.ref ga,.ref lo,.ref a]∧Tab H tb fa pa la p m t b∧WhAt H wh fa mk few root marks∧root<p^m∧marks.length≤64∧n≤64∧SqT K H pp [Vn f,Vn s,Vn np]∧SqT K H ga (got.map Vn)∧got.length=n∧SqT K H lo (ls.map Vn)∧SqT K H a (row.map Vn)∧row.length=n∧(∀y∈row,y<p^m)∧
  ∀H',Same H H'→Q (.bl (shB p m t root np marks row got ls)) H'
theorem zcL:yaj ["_law_table_here","_law_wheel_here","_law_paper_here","_law_got","_law_lost","_law_thing","_law_far"] ["_law_table_here","_law_wheel_here","_law_paper_here","_law_got","_law_lost","_law_thing"] (zad zbc):=⟨rfl,rfl,rfl,by decide +kernel,rfl,by decide +kernel,by decide +kernel⟩
theorem zgg (B:Bl mg) (h__law_is_word:Has P w K mg base 3 "_law_is_word" ["_law_table_here","_law_wheel_here","_law_word"] (ygr K)) (h__law_unlike:Has P w K mg base 1 "_law_unlike" ["_law_one","_law_other"] (yc8 K)) (F:Fun K "_law_due" "_law_due" zbc f fd):FnOk P w K mg base CX0 4 f fd ["_law_table_here","_law_wheel_here","_law_paper_here","_law_got","_law_lost","_law_thing"] (zek K):=by
  refine F.ok zcL (fun vs H Q E h=>?_) (fun cdv A outer s H vs Q E hr h=>?_)
  · obtain ⟨tb,fa,pa,la,wh,mk,pp,ga,lo,a,p,m,t,b,few,root,n,f,s,np,marks,got,row,ls,rfl,_⟩:=h;rfl
  obtain ⟨tb,fa,pa,la,wh,mk,pp,ga,lo,a,p,m,t,b,few,root,n,f,s,np,marks,got,row,ls,rfl,T,hW,rq,hml,hn,hpp,hga,hgl,hlo,ha,hl,hrow,q⟩:=h
  refine ⟨_,(yab (@zbA _ 6 _ _ _ _ _ _ _ _ _ ["_law_place"] ["_law_lost"] [4] _ _ _ _ zcL.nd rfl (Or.inl rfl) (id (α:=CSc ["_law_table_here","_law_wheel_here","_law_paper_here","_law_got","_law_lost","_law_thing","_law_far"] (zad zbc) ["_law_place"] ["_law_lost"] [4] _) ⟨by rfl,by decide +kernel,by decide +kernel,by decide +kernel,by decide +kernel,by rfl,by decide +kernel⟩) rfl (@ya7 _ _ _ _ (yad h__law_unlike hr (by decide) rfl (zaa (pv 3) (zaa (pv 5) yaa (by rfl)) (by rfl)) (by decide) (by rfl) (by rfl))) (fun cl C fp s H=>(@yae _ _ 0 _ (by show List.Nodup (["_law_place","_law_lost"]:List Str);decide +kernel) rfl (Or.inl rfl) (by trivial))) (fun _ _ _ _ _=>(@ybd _ _ _ (@zai _ _ _ _ _ _ _ _ (zca (K:=K) rfl) (pv 0) (pv 1) (by with_unfolding_all rfl)))) (fun _ _ _ _ _=>(pv 0)) (by rfl) (by intro _;rfl) (by trivial)) (zae (@zal _ _ _ _ (@zeq _ _ _ _ _ _ _ (yad h__law_is_word hr (by decide) rfl (zaa (pv 0) (zaa (pv 1) (zaa (pv 5) yaa (by rfl)) (by rfl)) (by rfl)) (by decide) (by rfl) (by rfl)) (@yeq _ _ _ _ _ (@ycn _ _ _ _ _ _ _ _ zgD (yaf yaX yac (zak yah rfl (B "len" (by decide)) PySem.boot_len (zaa (pv 6) yaa (by rfl)) (by decide) (by decide) (by rfl) (by rfl))) (yaf ybq (zan yas (pv 2) yac (fun _ _=>rfl)) (zak yah rfl (B "len" (by decide)) PySem.boot_len (zaa (pv 4) yaa (by rfl)) (by decide) (by decide) (by rfl) (by rfl))) (yal _))))))),?_⟩
  refine ⟨_,rfl,_,rfl,ga,a,got,row,rfl,hga,ha,by omega,by omega,fun r H1 s1 e1=>?_⟩
  refine ⟨r,rfl,⟨_,SqL.of e1⟩,?_⟩
  have hul:=ye2 got row got.length
  refine zar (yaR (xs:=(unl got row got.length).map Vn)) (fun i acc H'=>H'=H1∧acc=((((unl got row got.length).take i).filter fun k=>!decide (k∈ls)).map Vn)) ⟨rfl,rfl⟩ (fun i acc H' _ h=>by rw [h.1];exact SqL.of e1) ?_ ?_ ?_
  · rintro i acc H' hi ⟨_,rfl⟩
    rw [List.length_map] at hi
    have:=List.length_filter_le (fun k=>!decide (k∈ls)) ((unl got row got.length).take i)
    rw [List.length_take] at this
    rw [List.length_map];exact zam (by omega)
  · rintro i acc z H2 H2' hi ⟨rfl,rfl⟩ ⟨rfl,ez⟩
    rw [List.length_map] at hi
    rw [zat hi] at ez
    cases ez
    refine ⟨_,rfl,_,rfl,lo,_,rfl,.inr (Same.tup s1 hlo),rfl,zcj _,_,rfl,?_⟩
    have e:(unl got row got.length)[i]?=some ((unl got row got.length).getD i 0):=by rw [List.getElem?_eq_getElem hi];simp [List.getD,hi]
    rw [ycd,ya4 e,List.filter_append]
    generalize (unl got row got.length).getD i 0=y
    refine ite2 (fun c=>?_) (fun c=>?_)
    · refine ⟨_,rfl,rfl,?_⟩
      rw [List.map_append,List.filter_cons,if_pos (show (!decide (y∈ls))=true from c)];rfl
    · refine ⟨rfl,?_⟩
      rw [List.filter_cons,if_neg (show ¬ (!decide (y∈ls))=true from c),List.filter_nil,List.append_nil]
  · rintro acc H2 ⟨rfl,rfl⟩ D hD
    rw [List.length_map,List.take_length,yhi]
    have s2:=zac hD (.lst ((unL ls row got got.length).map Vn))
    have s12:=s1.trans s2
    dsimp only [zau]
    refine ⟨_,rfl,_,rfl,_,rfl,tb,fa,pa,la,wh,mk,a,p,m,t,b,few,root,marks,row,rfl,T.same s12,hW.same s12,rq,hml,Same.tup s12 ha,hrow,fun H3 s3=>?_⟩
    have s13:=s12.trans s3
    refine ⟨_,rfl,?_⟩
    refine ite2 (fun c=>?_) (fun c=>?_)
    · refine ⟨_,rfl,D,_,rfl,.inl (SqL.of (s3 _ _ zab)),?_⟩
      refine ⟨_,_,rfl,rfl,.inl ⟨by decide,by decide⟩,?_⟩
      refine ⟨_,rfl,pp,_,_,Vn np,rfl,rfl,Same.tup s13 hpp,rfl,?_⟩
      refine ⟨_,rfl,lo,_,rfl,.inr (Same.tup s13 hlo),?_⟩
      refine ⟨_,_,rfl,rfl,?_⟩
      refine ⟨_,_,rfl,rfl,?_⟩
      have e:decide ((2:Int)*(((unL ls row got got.length).map Vn).length:Int)≤(np:Int)-((ls.map Vn).length:Int))=shB p m t root np marks row got ls:=by
        unfold shB
        rw [c,Bool.true_and,List.length_map,List.length_map,hgl,hl]
        exact decide_eq_decide.mpr (by omega)
      dsimp only
      rw [e]
      exact q _ s13
    · have e:shB p m t root np marks row got ls=false:=by unfold shB;rw [Bool.eq_false_iff.mpr c];rfl
      rw [←e];exact q _ s13
theorem zcV:∀(l:List Nat) (k:Nat),(l.map Vn).eraseIdx k=(l.eraseIdx k).map Vn
  | [],_=>rfl
  | x::l,0=>rfl
  | x::l,k+1=>congrArg (Vn x::·) (zcV l k)
def ydz:Sp:=fun vs H Q _=>∃(pu g so a:Addr) (n many:Nat) (ls row:List Nat),vs=[.ref pu,.ref so,.ref a,Vn many]∧Pu H pu g∧H so=some (.lst (ls.map Vn))∧(so≠pu∧so≠g)∧H a=some (.tup (row.map Vn))∧row.length=n∧n≤63∧many≤n∧2≤ls.length∧ls.length≤64∧(∀y∈ls,y<64)∧(∀y∈row,y∈ls)∧
  ∀(r go sp:Addr) (got:List Nat) H',H' r=some (.tup [.ref go,.ref sp])→H' go=some (.tup (got.map Vn))→got.length=n→(∀y∈got,y∈ls)→(go≠pu∧go≠g)→Pu H' pu g→yan pu g H H'→Q (.ref r) H'
theorem yaY:yaj ["_law_purse_here","_law_some","_law_word","_law_many","_law_got","_law_left","_law_spots","_law_k","_law_place","_law_at"] ["_law_purse_here","_law_some","_law_word","_law_many"] (zad yaU):=⟨rfl,rfl,rfl,by decide +kernel,rfl,by decide +kernel,by decide +kernel⟩
theorem yfg (B:Bl mg) (h__law_pick:Has P w K mg base 1 "_law_pick" ["_law_purse_here","_law_many"] zbN) (F:Fun K "_law_faulty" "_law_faulty" yaU f fd):FnOk P w K mg base CX0 2 f fd ["_law_purse_here","_law_some","_law_word","_law_many"] ydz:=by
  refine F.ok yaY (fun vs H Q E h=>?_) (fun cdv A outer s H vs Q E hr h=>?_)
  · obtain ⟨pu,g,so,a,n,many,ls,row,rfl,_⟩:=h;rfl
  obtain ⟨pu,g,so,a,n,many,ls,row,rfl,hP,hso,nso,ha,hl,hn,hmany,hls2,hls64,hlslt,hrow,q⟩:=h
  refine ⟨_,(yab (@ydk _ _ 4 5 6 _ _ _ _ _ _ _ _ _ _ _ _ _ _ rfl yaY.nd rfl rfl rfl (by decide) rfl rfl rfl (zaa (yaq ybs rfl (B "list" (by decide)) zaP (zaa (pv 2) yaa (by rfl)) (by decide) (by decide) (by rfl) (by rfl)) (zaa (yaq (zbK rfl) rfl (B "list" (by decide)) zaP (zaa (@ycQ _ _ _ _ _ rfl (B "range" (by decide)) (zaa (zak yah rfl (B "len" (by decide)) PySem.boot_len (zaa (pv 2) yaa (by rfl)) (by decide) (by decide) (by rfl) (by rfl)) yaa (by rfl)) (by rfl)) yaa (by rfl)) (by decide) (by decide) (by rfl) (by rfl)) (zaa (@zaE _ _ _ _ yaa) yaa (by rfl)) (by rfl)) (by rfl)) rfl (by rfl)) (yab (@yaD _ _ _ _ _ _ _ _ PassesOwn.never rfl (@yau _ _ _ _ _ _ rfl (B "range" (by decide)) (zaa (pv 3) yaa (by rfl)) (by rfl)) (@yae _ _ 7 _ yaY.nd rfl (Or.inl rfl) (by trivial)) (yab (@zag _ _ 8 _ _ _ _ yaY.nd rfl (Or.inl rfl) (@zcG _ _ _ _ _ _ _ _ _ _ _ _ PySem.F.plainAttrs_list PySem.F.slot_list_pop PySem.F.type_list_pop ydh (pv 5) (zaa (yad h__law_pick hr (by decide) rfl (zaa (pv 0) (zaa (zak yah rfl (B "len" (by decide)) PySem.boot_len (zaa (pv 5) yaa (by rfl)) (by decide) (by decide) (by rfl) (by rfl)) yaa (by rfl)) (by rfl)) (by decide) (by rfl) (by rfl)) yaa (by rfl)) (by rfl) (by rfl) (by rfl) (by rfl) (by rfl)) (by rfl) (by trivial)) (yab (@zag _ _ 9 _ _ _ _ yaY.nd rfl (Or.inl rfl) (yaf yar (yaf yar (@zcG _ _ _ _ _ _ _ _ _ _ _ _ PySem.F.plainAttrs_list PySem.F.slot_list_index PySem.F.type_list_index ygh (pv 1) (zaa (zan zaq (pv 4) (pv 8) (fun _ _=>rfl)) yaa (by rfl)) (by rfl) (by rfl) (by rfl) (by rfl) (by rfl)) yac) (yad h__law_pick hr (by decide) rfl (zaa (pv 0) (zaa (yaf ybq (zak yah rfl (B "len" (by decide)) PySem.boot_len (zaa (pv 1) yaa (by rfl)) (by decide) (by decide) (by rfl) (by rfl)) yac) yaa (by rfl)) (by rfl)) (by decide) (by rfl) (by rfl))) (by rfl) (by trivial)) (yab (@za6 _ _ _ _ _ _ (zan zaq (pv 1) (yaf zaz (pv 9) (zak yah rfl (B "len" (by decide)) PySem.boot_len (zaa (pv 1) yaa (by rfl)) (by decide) (by decide) (by rfl) (by rfl))) (fun _ _=>rfl)) (@zcH _ _ _ _ _ _ _ (pv 4) (pv 8) ybM (by intro _;rfl)) (by rfl) (by rfl) (by rfl)) (zae (@ybV _ _ _ _ (@zcG _ _ _ _ _ _ _ _ _ _ _ _ PySem.F.plainAttrs_list PySem.F.slot_list_append PySem.F.type_list_append ybp (pv 6) (zaa (pv 8) yaa (by rfl)) (by rfl) (by rfl) (by rfl) (by rfl) (by rfl)) (by rfl)))))) (by intro _;rfl)) (zae (@zal _ _ _ _ (@zaR _ _ _ _ _ (zaa (yaq zaI rfl (B "tuple" (by decide)) yaA (zaa (pv 4) yaa (by rfl)) (by decide) (by decide) (by rfl) (by rfl)) (zaa (zak ycG rfl (B "sorted" (by decide)) yby (zaa (pv 6) yaa (by rfl)) (by decide) (by decide) (by rfl) (by rfl)) yaa (by rfl)) (by rfl))))))),?_⟩
  refine ⟨_,rfl,a,_,rfl,.inr (SqT.of ha),fun go hgo=>?_⟩
  have s1:=zac hgo (.lst (row.map Vn))
  refine ⟨_,rfl,a,_,rfl,.inr (SqT.of (s1 _ _ ha)),(n:Int),by rw [List.length_map,hl],fun rg hrg=>?_⟩
  have s2:=zac hrg (.rng 0 (n:Int))
  refine ⟨rg,0,(n:Int),rfl,zab,⟨by omega,by omega,by omega,by omega⟩,szl _ (by omega),fun le hle=>?_⟩
  have e1:L2.intsFrom 0 ((n:Int)-0).toNat=(List.range n).map Vn:=by
    rw [show ((n:Int)-0).toNat=n by omega]
    unfold L2.intsFrom
    refine List.map_congr_left fun i _=>?_
    exact ybN (Int.zero_add _)
  rw [e1]
  have s3:=zac hle (.lst ((List.range n).map Vn))
  refine ⟨szl 0,fun sp hsp=>?_⟩
  have s4:=zac hsp (.lst [])
  refine ⟨_,_,_,rfl,?_⟩
  dsimp only [zau]
  have ngo:=hP.lt hgo
  have nle:=((hP.same s1).same s2).lt hle
  have nsp:=(((hP.same s1).same s2).same s3).lt hsp
  have fle:H le=none:=(s1.trans s2).free hle
  have fsp:H sp=none:=(s1.trans (s2.trans s3)).free hsp
  have n1:le≠go:=fun e=>by rw [e,s2 _ _ zab] at hle;cases hle
  have n2:sp≠go:=fun e=>by rw [e,s3 _ _ (s2 _ _ zab)] at hsp;cases hsp
  have n3:sp≠le:=fun e=>by rw [e,zab] at hsp;cases hsp
  have ego0:=s4 _ _ (s3 _ _ (s2 _ _ (show upd H go (.lst (row.map Vn)) go=some (.lst (row.map Vn)) from zab)))
  have ele0:=s4 _ _ (show upd (upd (upd H go (.lst (row.map Vn))) rg (.rng 0 (n:Int))) le (.lst ((List.range n).map Vn)) le=some (.lst ((List.range n).map Vn)) from zab)
  have esp0:upd (upd (upd (upd H go (.lst (row.map Vn))) rg (.rng 0 (n:Int))) le (.lst ((List.range n).map Vn))) sp (.lst []) sp=some (.lst (([]:List Nat).map Vn)):=zab
  have s14:=s1.trans (s2.trans (s3.trans s4))
  have hP4:=hP.same s14
  generalize upd (upd (upd (upd H go (.lst (row.map Vn))) rg (.rng 0 (n:Int))) le (.lst ((List.range n).map Vn))) sp (.lst [])=H4 at ego0 ele0 esp0 s14 hP4 ⊢
  have sxU:∀ {H':Hp} {l:Addr} {o:HO},yan pu g H H'→H l=none→yan pu g H (upd H' l o):=fun {H' l o} sx hn b u h1 h2 e=>by rw [yag (zaf e hn)];exact sx b u h1 h2 e
  have puU:∀ {H':Hp} {l:Addr} {o:HO},Pu H' pu g→(l≠pu∧l≠g)→Pu (upd H' l o) pu g:=fun {H' l o} hP' hn=>by
    obtain ⟨ns,x,y,h1,h2⟩:=hP'
    exact ⟨ns,x,y,by rw [yag (Ne.symm hn.1)];exact h1,by rw [yag (Ne.symm hn.2)];exact h2⟩
  refine ⟨_,rfl,(many:Int),rfl,by omega,by omega,?_⟩
  refine yaI (lo:=0) (n:=(many:Int).toNat) (fun i σ H'=>Pu H' pu g∧yan pu g H H'∧(∃gs:List Nat,H' go=some (.lst (gs.map Vn))∧gs.length=n∧∀y∈gs,y∈ls)∧(∃ps:List Nat,H' le=some (.lst (ps.map Vn))∧ps.length+i=n∧∀y∈ps,y<n)∧(∃qs:List Nat,H' sp=some (.lst (qs.map Vn))∧qs.length=i)∧∃s7 s8 s9,σ=[some (.ref pu),some (.ref so),some (.ref a),some (Vn many),some (.ref go),some (.ref le),some (.ref sp),s7,s8,s9]) ⟨hP4,Same.x s14,⟨row,ego0,hl,hrow⟩,⟨List.range n,ele0,by simp,fun y hy=>List.mem_range.mp hy⟩,⟨[],esp0,rfl⟩,none,none,none,rfl⟩ ?_ ?_
  · rintro i σ H5 hi ⟨hP5,sx5,⟨gs,ego,hgl,hgs⟩,⟨ps,ele,hpl,hps⟩,⟨qs,esp,hql⟩,s7,s8,s9,rfl⟩
    rw [Int.toNat_natCast] at hi
    have hso5:=sx5 _ _ nso.1 nso.2 hso
    refine ⟨_,rfl,.inl ⟨rfl,_,SqL.of ele⟩,_,rfl,_,rfl,le,_,rfl,.inl (SqL.of ele),pu,g,ps.length,by rw [List.length_map];rfl,hP5,by omega,by omega,fun v H6 hv hP6 sx6=>?_⟩
    have ele6:=sx6 _ _ nle.1 nle.2 ele
    have ego6:=sx6 _ _ ngo.1 ngo.2 ego
    have esp6:=sx6 _ _ nsp.1 nsp.2 esp
    have hso6:=sx6 _ _ nso.1 nso.2 hso5
    have hpl1:ps.getD v 0<n:=zbi hps hv
    refine ⟨le,_,_,v,Vn (ps.getD v 0),rfl,rfl,ele6,by omega,by omega,by rw [List.length_map];exact (ycS (ydM hv)).1,zat hv,?_⟩
    generalize ps.getD v 0=pl at hpl1 ⊢
    have eer:(ps.map Vn).eraseIdx v=(ps.eraseIdx v).map Vn:=zcV ps v
    rw [eer]
    dsimp only [zau]
    have hP7:Pu (upd H6 le (.lst ((ps.eraseIdx v).map Vn))) pu g:=puU hP6 nle
    have sx7:yan pu g H (upd H6 le (.lst ((ps.eraseIdx v).map Vn))):=sxU (sx5.trans sx6) fle
    have ele7:upd H6 le (.lst ((ps.eraseIdx v).map Vn)) le=some (.lst ((ps.eraseIdx v).map Vn)):=zab
    have ego7:upd H6 le (.lst ((ps.eraseIdx v).map Vn)) go=some (.lst (gs.map Vn)):=by rw [yag (Ne.symm n1)];exact ego6
    have esp7:upd H6 le (.lst ((ps.eraseIdx v).map Vn)) sp=some (.lst (qs.map Vn)):=by rw [yag n3];exact esp6
    have hso7:=sx7 _ _ nso.1 nso.2 hso
    generalize upd H6 le (.lst ((ps.eraseIdx v).map Vn))=H7 at hP7 sx7 ele7 ego7 esp7 hso7 ⊢
    have hgp:gs.getD pl 0∈gs:=by rw [show gs.getD pl 0=gs[pl]'(by omega) by simp [List.getD,hgl,hpl1]];exact List.getElem_mem _
    refine ⟨_,rfl,.inl ⟨rfl,_,SqL.of hso7⟩,_,rfl,_,rfl,go,_,_,Vn (gs.getD pl 0),rfl,rfl,SqL.of ego7,yaw (zat (by omega)),so,ls.map (fun x:Nat=>(x:Int)),((gs.getD pl 0:Nat):Int),rfl,rfl,SqL.of (by rw [mapI];exact hso7),List.mem_map.mpr ⟨_,hgs _ hgp,rfl⟩,?_⟩
    refine ⟨_,_,rfl,rfl,?_⟩
    refine ⟨_,rfl,_,rfl,so,_,rfl,.inl (SqL.of hso7),_,_,rfl,rfl,pu,g,ls.length-1,?_,hP7,by omega,by omega,fun v2 H8 hv2 hP8 sx8=>?_⟩
    · show [V.ref pu,V.int (((ls.map Vn).length:Int)-1)]=_
      rw [List.length_map,show (ls.length:Int)-1=((ls.length-1:Nat):Int) by omega]
    refine ⟨_,_,rfl,rfl,?_⟩
    dsimp only [zau]
    have ele8:=sx8 _ _ nle.1 nle.2 ele7
    have ego8:=sx8 _ _ ngo.1 ngo.2 ego7
    have esp8:=sx8 _ _ nsp.1 nsp.2 esp7
    have hso8:=sx8 _ _ nso.1 nso.2 hso7
    have sx8':=sx7.trans sx8
    obtain ⟨j,hj,ej⟩:∃j:Nat,j<ls.length∧(((ls.map fun x:Nat=>(x:Int)).idxOf ((gs.getD pl 0:Nat):Int):Nat):Int)+1+(v2:Int)=((((ls.map fun x:Nat=>(x:Int)).idxOf ((gs.getD pl 0:Nat):Int)+1+v2:Nat)):Int)∧((ls.map fun x:Nat=>(x:Int)).idxOf ((gs.getD pl 0:Nat):Int)+1+v2)%ls.length=j:=⟨_,Nat.mod_lt _ (by omega),by omega,rfl⟩
    refine ⟨_,rfl,_,rfl,_,rfl,so,_,rfl,.inl (SqL.of hso8),_,_,rfl,rfl,by show (0:Int)<((ls.map Vn).length:Int);rw [List.length_map];omega,so,_,_,Vn (ls.getD j 0),rfl,rfl,SqL.of hso8,?_,?_⟩
    · rw [List.length_map,ej.1]
      have:=Int.natCast_emod ((ls.map fun x:Nat=>(x:Int)).idxOf ((gs.getD pl 0:Nat):Int)+1+v2) ls.length
      rw [←this,ej.2]
      exact yaw (zat hj)
    refine ⟨_,rfl,_,rfl,go,_,_,pl,rfl,rfl,ego8,by rw [List.length_map];exact ydM (by omega),?_⟩
    rw [zd4]
    have hlj:ls.getD j 0∈ls:=by rw [show ls.getD j 0=ls[j] by simp [List.getD,hj]];exact List.getElem_mem hj
    have hP9:Pu (upd H8 go (.lst ((gs.set pl (ls.getD j 0)).map Vn))) pu g:=puU hP8 ngo
    have sx9:yan pu g H (upd H8 go (.lst ((gs.set pl (ls.getD j 0)).map Vn))):=sxU sx8' hgo
    have ele9:upd H8 go (.lst ((gs.set pl (ls.getD j 0)).map Vn)) le=some (.lst ((ps.eraseIdx v).map Vn)):=by rw [yag n1];exact ele8
    have ego9:upd H8 go (.lst ((gs.set pl (ls.getD j 0)).map Vn)) go=some (.lst ((gs.set pl (ls.getD j 0)).map Vn)):=zab
    have esp9:upd H8 go (.lst ((gs.set pl (ls.getD j 0)).map Vn)) sp=some (.lst (qs.map Vn)):=by rw [yag n2];exact esp8
    generalize upd H8 go (.lst ((gs.set pl (ls.getD j 0)).map Vn))=H9 at hP9 sx9 ele9 ego9 esp9 ⊢
    refine ⟨_,rfl,.inl ⟨rfl,_,SqL.of esp9⟩,_,rfl,sp,_,_,rfl,rfl,esp9,zam (by rw [List.length_map];omega),?_⟩
    rw [show qs.map Vn++[Vn pl]=(qs++[pl]).map Vn by rw [List.map_append];rfl]
    refine ⟨puU hP9 nsp,sxU sx9 fsp,⟨gs.set pl (ls.getD j 0),by rw [yag (Ne.symm n2)];exact ego9,by rw [List.length_set];exact hgl,fun y hy=>?_⟩,⟨ps.eraseIdx v,by rw [yag (Ne.symm n3)];exact ele9,?_,fun y hy=>hps y (List.mem_of_mem_eraseIdx hy)⟩,⟨qs++[pl],zab,by simp [hql]⟩,_,_,_,rfl⟩
    · rcases List.mem_or_eq_of_mem_set hy with h|h
      · exact hgs y h
      · rw [h];exact hlj
    · rw [List.length_eraseIdx_of_lt hv];omega
  · rw [Int.toNat_natCast]
    rintro σ H5 ⟨hP5,sx5,⟨gs,ego,hgl,hgs⟩,⟨ps,ele,hpl,hps⟩,⟨qs,esp,hql⟩,s7,s8,s9,rfl⟩
    refine ⟨_,rfl,go,_,rfl,.inl ⟨SqL.of ego,fun tg htg=>?_⟩⟩
    have t1:=zac htg (.tup (gs.map Vn))
    have ntg:=hP5.lt htg
    refine ⟨_,rfl,sp,qs.map (fun x:Nat=>(x:Int)),rfl,SqL.of (by rw [mapI];exact t1 _ _ esp),by rw [List.length_map];omega,fun sl ns' hsl _ _=>?_⟩
    have t2:=zac hsl (.lst (ns'.map V.int))
    refine ⟨szl 2,fun r hr=>?_⟩
    have t3:=zac hr (.tup [.ref tg,.ref sl])
    exact q r tg sl gs _ zab (t3 _ _ (t2 _ _ zab)) hgl hgs ntg (hP5.same (t1.trans (t2.trans t3))) (sx5.trans (Same.x (t1.trans (t2.trans t3))))
theorem zdK {K:PySem.W.Frag} {H:Hp} {a b:Addr} {xs ys:List V} {Q:VK} (ha:SqT K H a xs) (hb:SqT K H b ys) (hl:xs.length+ys.length≤sizeLine) (q:∀(r:Addr) H',Same H H'→SqT K H' r (xs++ys)→Q (.ref r) H'):ygO K (.ref a) (.ref b) H Q:=by
  refine ⟨a,b,xs,ys,rfl,rfl,ha,hb,hl,fun e=>?_,fun _ e=>?_,fun _ _ p hp=>q p _ (zac hp _) (SqT.of zab)⟩
  · subst e;exact q b H (Same.refl _) hb
  · subst e;exact q a H (Same.refl _) (by rw [List.append_nil];exact ha)
theorem zdb (xs:List V) (N:Nat):cutV xs none (some (N:Int))=xs.take N:=by
  unfold cutV
  rw [HT.sIx_none,HT.sIx_nat,List.drop_zero,Nat.sub_zero,←List.take_eq_take_min]
theorem zc3 (xs:List V) (N:Nat):cutV xs (some (N:Int)) none=xs.drop N:=by
  unfold cutV
  rw [HT.sIx_none,HT.sIx_nat]
  rcases Nat.le_total N xs.length with c|c
  · rw [Nat.min_eq_left c,List.take_of_length_le (by rw [List.length_drop];omega)]
  · rw [Nat.min_eq_right c,List.drop_of_length_le c,List.drop_of_length_le (Nat.le_refl _)];simp
theorem zgs {K:PySem.W.Frag} {H:Hp} {a:Addr} {xs:List V} {N:Nat} {Q:VK} (h:SqT K H a xs) (q:∀(r:Addr) H',Same H H'→SqT K H' r (xs.take N)→Q (.ref r) H'):rSlA K (.ref a) none (some (N:Int)) H Q:=by
  refine ⟨a,_,rfl,h,fun e=>?_,fun l hl=>?_⟩
  · rw [zdb] at e
    exact q a H (Same.refl _) (by rw [e];exact h)
  · rw [zdb]
    exact q l _ (zac hl _) (SqT.of zab)
theorem zfG {K:PySem.W.Frag} {H:Hp} {a:Addr} {xs:List V} {N:Nat} {Q:VK} (h:SqT K H a xs) (q:∀(r:Addr) H',Same H H'→SqT K H' r (xs.drop N)→Q (.ref r) H'):rSlA K (.ref a) (some (N:Int)) none H Q:=by
  refine ⟨a,_,rfl,h,fun e=>?_,fun l hl=>?_⟩
  · rw [zc3] at e
    exact q a H (Same.refl _) (by rw [e];exact h)
  · rw [zc3]
    exact q l _ (zac hl _) (SqT.of zab)
theorem yfn {σ:St} {H:Hp} {Q:Option Int→Hp→Prop} (h:Q none H):zfq σ H Q:=h
theorem ygH {ns:List Nat} (h:∀n∈ns,n<100) (hl:ns.length≤100):DOk (.tuple (ns.map fun n:Nat=>PyData.int (n:Int))) (2^20):=by
  obtain ⟨b1,b2,b3,b4,b5⟩:=zgH h
  refine ⟨b1,b2,?_,b4,?_⟩
  · show PyData.depthAll _+1≤40
    rw [b3];decide
  · show PyData.weightAll _≤2^20
    have:(2:Nat)^20=1048576:=by decide
    omega
theorem zbH {K:PySem.W.Frag} {H:Hp} {n q:Nat} {x:V} {T:String} (h:yfJ K H x T) (hT:T≠"tuple"):OddT K H n q x:=.inl ⟨T,.inl h,hT⟩
theorem zcn {K:PySem.W.Frag} {H:Hp} {n q:Nat} {a:Addr} {xs:List V} (h:SqT K H a xs) (hl:xs.length≠n):OddT K H n q (.ref a):=.inr ⟨a,xs,rfl,h,.inl hl⟩
theorem zfo {K:PySem.W.Frag} {H H':Hp} {n q:Nat} {xs:List V} (s:Same H H') (h:∀x∈xs,OddT K H n q x):∀x∈xs,OddT K H' n q x:=fun x hx=>(h x hx).same s
theorem yhg {K:PySem.W.Frag} {H:Hp} (row:List Nat):∀e∈row.map Vn,Kd K H e:=fun e he=>by
  obtain ⟨y,_,rfl⟩:=List.mem_map.mp he
  exact ⟨"int",.inl rfl⟩
def zfi (K:PySem.W.Frag):Sp:=fun vs H Q _=>∃(pu g tb fa pa la a:Addr) (p m t b n:Nat) (row:List Nat),vs=[.ref pu,.ref tb,.ref a]∧Pu H pu g∧Tab H tb fa pa la p m t b∧yeQ pu g tb fa pa la∧H a=some (.tup (row.map Vn))∧(a≠pu∧a≠g)∧row.length=n∧1≤n∧n≤63∧(∀y∈row,y<p^m)∧
  ∀(r:Addr) (xs:List V) H',H' r=some (.lst xs)→xs.length≤100→(∀x∈xs,OddT K H' n (p^m) x)→(r≠pu∧r≠g)→Pu H' pu g→yan pu g H H'→Q (.ref r) H'
theorem ybb:yaj ["_law_purse_here","_law_table_here","_law_word","_law_at","_law_n","_law_odds","_law_some"] ["_law_purse_here","_law_table_here","_law_word"] (zad ya3):=⟨rfl,rfl,rfl,by decide +kernel,rfl,by decide +kernel,by decide +kernel⟩
theorem ygK (B:Bl mg) (h__law_pick:Has P w K mg base 1 "_law_pick" ["_law_purse_here","_law_many"] zbN) (F:Fun K "_law_odd" "_law_odd" ya3 f fd):FnOk P w K mg base CX0 2 f fd ["_law_purse_here","_law_table_here","_law_word"] (zfi K):=by
  refine F.ok ybb (fun vs H Q E h=>?_) (fun cdv A outer s H vs Q E hr h=>?_)
  · obtain ⟨pu,g,tb,fa,pa,la,a,p,m,t,b,n,row,rfl,_⟩:=h;rfl
  obtain ⟨pu,g,tb,fa,pa,la,a,p,m,t,b,n,row,rfl,hP,T,ap,ha,na,hl,hn1,hn,hrow,q⟩:=h
  refine ⟨_,(yab (@za6 _ _ _ _ _ _ (@zaR _ _ _ _ _ (zaa (yad h__law_pick hr (by decide) rfl (zaa (pv 0) (zaa (zak yah rfl (B "len" (by decide)) PySem.boot_len (zaa (pv 2) yaa (by rfl)) (by decide) (by decide) (by rfl) (by rfl)) yaa (by rfl)) (by rfl)) (by decide) (by rfl) (by rfl)) (zaa (zak yah rfl (B "len" (by decide)) PySem.boot_len (zaa (pv 2) yaa (by rfl)) (by decide) (by decide) (by rfl) (by rfl)) yaa (by rfl)) (by rfl))) (@ya8 _ _ _ _ _ _ rfl (zah (@yae _ _ 3 _ ybb.nd rfl (Or.inr rfl) (by trivial)) (zah (@yae _ _ 4 _ ybb.nd rfl (Or.inl rfl) (by trivial)) yaH (by rfl)) (by rfl)) (by rfl) (by rfl)) (by rfl) (by rfl) (by rfl)) (yab (@zag _ _ 5 _ _ _ _ ybb.nd rfl (Or.inl rfl) (@zaE _ _ _ _ (zaa yci (zaa ygt (zaa (@zeN _ _ _ _ _ _ yc7 yac) (zaa (@yaz _ _ _ _ _ _ (zbn hr) (pv 1) yaF (fun _ _=>rfl)) (zaa (yaq (zex hr.gd hr.units) rfl (B "str" (by decide)) zcS (zaa (zan yas (pv 2) (pv 3) (fun _ _=>rfl)) yaa (by rfl)) (by decide) (by decide) (by rfl) (by rfl)) (zaa (@zaR _ _ _ _ _ (zaa (zan yas (pv 2) (pv 3) (fun _ _=>rfl)) yaa (by rfl))) (zaa yci (zaa (yaf yar (zan yas (pv 2) (pv 3) (fun _ _=>rfl)) (@yaz _ _ _ _ _ _ (zbn hr) (pv 1) yaF (fun _ _=>rfl))) yaa (by rfl)) (by rfl)) (by rfl)) (by rfl)) (by rfl)) (by rfl)) (by rfl)) (by rfl))) (by rfl) (by trivial)) (yab (@zbA _ 6 _ _ _ _ _ _ _ _ _ ["_law_way"] ["_law_word","_law_at"] [2,3] _ _ _ _ ybb.nd rfl (Or.inl rfl) (id (α:=CSc ["_law_purse_here","_law_table_here","_law_word","_law_at","_law_n","_law_odds","_law_some"] (zad ya3) ["_law_way"] ["_law_word","_law_at"] [2,3] _) ⟨by rfl,by decide +kernel,by decide +kernel,by decide +kernel,by decide +kernel,by rfl,by decide +kernel⟩) rfl (@ya7 _ _ _ _ (pv 5)) (fun cl C fp s H=>(@yae _ _ 0 _ (by show List.Nodup (["_law_way","_law_word","_law_at"]:List Str);decide +kernel) rfl (Or.inl rfl) (by trivial))) (fun _ _ _ _ _=>yaL) (fun _ _ _ _ _=>(yaf (yeo (K:=K) rfl) (yaf (yeo (K:=K) rfl) (@ybv _ _ _ _ _ _ _ _ _ _ (zew (K:=K) rfl) (pv 1) ybX (@zbY _ _ _ (pv 2))) (@zaR _ _ _ _ _ (zaa (pv 0) yaa (by rfl)))) (@ybv _ _ _ _ _ _ _ _ _ _ (zew (K:=K) rfl) (pv 1) (@zbY _ _ _ (yaf yar (pv 2) yac)) ybX))) (by rfl) (by intro _;rfl) (by trivial)) (yab (@zag _ _ 6 _ _ _ _ ybb.nd rfl (Or.inl rfl) (yaf zcB (pv 6) (@zaE _ _ _ _ (zaa (yaq ybs rfl (B "list" (by decide)) zaP (zaa (pv 2) yaa (by rfl)) (by decide) (by decide) (by rfl) (by rfl)) (zaa (yaf zcF (pv 2) (@zaR _ _ _ _ _ (zaa yac yaa (by rfl)))) (zaa (@ybv _ _ _ _ _ _ _ _ _ _ ydf (pv 2) (@zbY _ _ _ yac) ybX) (zaa (yaf zcF (pv 2) (pv 2)) (zaa (@zaR _ _ _ _ _ (zaa (pv 2) yaa (by rfl))) (zaa (@zaR _ _ _ _ _ yaa) (zaa ygt (zaa yac (zaa yaF (zaa yf0 (zaa (zan yas (pv 2) yac (fun _ _=>rfl)) yaa (by rfl)) (by rfl)) (by rfl)) (by rfl)) (by rfl)) (by rfl)) (by rfl)) (by rfl)) (by rfl)) (by rfl)) (by rfl)))) (by rfl) (by trivial)) (zae (@zal _ _ _ _ (yaf zcB (pv 6) (@zaE _ _ _ _ (zaa (yaf zcF (@ybv _ _ _ _ _ _ _ _ _ _ ydf (pv 2) ybX (@zbY _ _ _ (pv 3))) (@ybv _ _ _ _ _ _ _ _ _ _ ydf (pv 2) (@zbY _ _ _ (yaf yar (pv 3) yac)) ybX)) (zaa (yaq (zbp rfl) rfl (B "dict" (by decide)) zbQ (zaa (@yaM _ _ _ _ _ _ _ ["_law_k"] ["_law_word"] [2] _ _ _ _ (id (α:=CSc ["_law_purse_here","_law_table_here","_law_word","_law_at","_law_n","_law_odds","_law_some"] (zad ya3) ["_law_k"] ["_law_word"] [2] _) ⟨by rfl,by decide +kernel,by decide +kernel,by decide +kernel,by decide +kernel,by rfl,by decide +kernel⟩) rfl (@yau _ _ _ _ _ _ rfl (B "range" (by decide)) (zaa (pv 4) yaa (by rfl)) (by rfl)) (fun cl C fp s H=>(@yae _ _ 0 _ (by show List.Nodup (["_law_k","_law_word"]:List Str);decide +kernel) rfl (Or.inl rfl) (by trivial))) (fun _ _ _ _ _=>yaL) (fun _ _ _ _ _=>(@zaR _ _ _ _ _ (zaa (pv 0) (zaa (zan (ybg (K:=K) rfl) (pv 1) (pv 0) (fun _ _=>rfl)) yaa (by rfl)) (by rfl)))) (by intro _;rfl)) yaa (by rfl)) (by decide) (by decide) (by rfl) (by rfl)) (zaa (@zaE _ _ _ _ (zaa (pv 2) yaa (by rfl))) (zaa (yaq (zex hr.gd hr.units) rfl (B "str" (by decide)) zcS (zaa (pv 2) yaa (by rfl)) (by decide) (by decide) (by rfl) (by rfl)) yaa (by rfl)) (by rfl)) (by rfl)) (by rfl)))))))))),?_⟩
  have G:=T.good
  have hQ:=G.hq
  have hq1:=zaM G.hp G.hm
  refine ⟨_,rfl,_,rfl,a,_,rfl,.inr (SqT.of ha),pu,g,n,by rw [List.length_map,hl];rfl,hP,hn1,by omega,fun at_ H1 hat hP1 sx1=>?_⟩
  have ha1:=sx1 _ _ na.1 na.2 ha
  have T1:=T.x ap sx1
  refine ⟨_,rfl,a,_,rfl,.inr (SqT.of ha1),szl 2,fun t0 ht0=>?_⟩
  have s1:=zac ht0 (.tup [Vn at_,V.int ((row.map Vn).length:Int)])
  refine ⟨t0,_,rfl,SqT.of zab,rfl,_,_,rfl,_,_,rfl,rfl,?_⟩
  dsimp only [zau]
  have ha2:=s1 _ _ ha1
  have T2:=T1.same s1
  have hP2:=hP1.same s1
  have sx2:=sx1.trans (Same.x s1)
  generalize upd H1 t0 (.tup [Vn at_,V.int ((row.map Vn).length:Int)])=H2 at ha2 T2 hP2 sx2 ⊢
  have hix:at_<row.length:=by omega
  have ax:=zat hix
  have hxq:row.getD at_ 0<p^m:=zbi hrow hix
  generalize row.getD at_ 0=x0 at ax hxq
  refine ⟨1,rfl,_,rfl,tb,_,rfl,T2.get zb0,?_⟩
  refine ⟨_,rfl,_,rfl,a,_,_,Vn x0,rfl,rfl,SqT.of ha2,yaw ax,_,rfl,.inl ⟨_,rfl,zdW x0 (by omega)⟩,fun z=>?_⟩
  refine ⟨_,rfl,_,rfl,a,_,_,Vn x0,rfl,rfl,SqT.of ha2,yaw ax,szl 1,fun t1 ht1=>?_⟩
  have s3:=zac ht1 (.tup [Vn x0])
  have ha3:=s3 _ _ ha2
  have T3:=T2.same s3
  refine ⟨_,rfl,_,rfl,a,_,_,Vn x0,rfl,rfl,SqT.of ha3,yaw ax,_,rfl,tb,_,rfl,T3.get zb0,_,_,rfl,rfl,szl 8,fun od hod=>?_⟩
  dsimp only [zau]
  have s4:=zac hod (.lst [V.bl true,V.non,V.int (-1),Vn (p^m),V.str z,V.ref t1,V.bl false,V.int ((x0:Int)+((p^m:Nat):Int))])
  have eod:upd (upd H2 t1 (.tup [Vn x0])) od (.lst [V.bl true,V.non,V.int (-1),Vn (p^m),V.str z,V.ref t1,V.bl false,V.int ((x0:Int)+((p^m:Nat):Int))]) od=some (.lst [V.bl true,V.non,V.int (-1),Vn (p^m),V.str z,V.ref t1,V.bl false,V.int ((x0:Int)+((p^m:Nat):Int))]):=zab
  have et1:=s4 _ _ (show upd H2 t1 (.tup [Vn x0]) t1=some (.tup [Vn x0]) from zab)
  have ha4:=s4 _ _ ha3
  have hP4:=(hP2.same s3).same s4
  have sx4:=sx2.trans (Same.x (s3.trans s4))
  have hbad:∀e∈[V.bl true,V.non,V.int (-1),Vn (p^m),V.str z,V.ref t1,V.bl false,V.int ((x0:Int)+((p^m:Nat):Int))],badE (p^m) e:=fun e he i hi=>by
    subst hi
    simp only [List.mem_cons,List.not_mem_nil,or_false] at he
    rcases he with h|h|h|h|h|h|h|h <;> (try cases h)
    · omega
    · omega
    · omega
  have hkd:∀ {H':Hp},H' t1=some (.tup [Vn x0])→∀e∈[V.bl true,V.non,V.int (-1),Vn (p^m),V.str z,V.ref t1,V.bl false,V.int ((x0:Int)+((p^m:Nat):Int))],Kd K H' e:=fun {H'} h1 e he=>by
    simp only [List.mem_cons,List.not_mem_nil,or_false] at he
    rcases he with rfl|rfl|rfl|rfl|rfl|rfl|rfl|rfl
    · exact ⟨"bool",.inl rfl⟩
    · exact ⟨"NoneType",.inl rfl⟩
    · exact ⟨"int",.inl rfl⟩
    · exact ⟨"int",.inl rfl⟩
    · exact ⟨"str",.inl rfl⟩
    · exact ⟨"tuple",.inl (.inr ⟨rfl,_,SqT.of h1⟩)⟩
    · exact ⟨"bool",.inl rfl⟩
    · exact ⟨"int",.inl rfl⟩
  generalize upd (upd H2 t1 (.tup [Vn x0])) od (.lst [V.bl true,V.non,V.int (-1),Vn (p^m),V.str z,V.ref t1,V.bl false,V.int ((x0:Int)+((p^m:Nat):Int))])=H4 at eod et1 ha4 hP4 sx4 ⊢
  generalize hods:[V.bl true,V.non,V.int (-1),Vn (p^m),V.str z,V.ref t1,V.bl false,V.int ((x0:Int)+((p^m:Nat):Int))]=ods at eod hbad hkd
  have hodl:ods.length=8:=by rw [←hods];rfl
  refine ⟨_,rfl,od,rfl,⟨_,SqL.of eod⟩,?_⟩
  refine zar (yaR (xs:=ods)) (fun i acc H'=>Same H4 H'∧acc.length=i∧∀x∈acc,OddT K H' n (p^m) x) ⟨Same.refl _,rfl,fun x hx=>nomatch hx⟩ (fun i acc H' _ h=>SqL.of (h.1 _ _ eod)) ?_ ?_ ?_
  · rintro i acc H' hi ⟨_,e,_⟩
    rw [e];exact zam (by omega)
  · rintro i acc e H5 H5' hi ⟨s5,hl5,ho5⟩ ⟨rfl,ez⟩
    have hem:e∈ods:=List.mem_of_getElem? ez
    have ha5:=s5 _ _ ha4
    refine ⟨_,rfl,_,rfl,(at_:Int),rfl,zgs (SqT.of ha5) fun c1 HJ sJ eJ=>?_⟩
    refine ⟨_,rfl,szl 1,fun c2 hc2=>?_⟩
    have sK:=zac hc2 (.tup [e])
    refine zdK (Same.tup sK eJ) (SqT.of zab) (szl _ (by rw [List.length_take,List.length_map];show _+1≤_;omega)) fun c3 HL sL eL=>?_
    have sJL:=sJ.trans (sK.trans sL)
    refine ⟨_,rfl,_,rfl,_,_,rfl,rfl,((at_:Int)+1),rfl,?_⟩
    refine yfn ?_
    rw [show (at_:Int)+1=((at_+1:Nat):Int) by omega]
    refine zfG (SqT.of (sJL _ _ ha5)) fun c4 HM sM eM=>?_
    refine zdK (Same.tup sM eL) eM (szl _ (by simp only [List.length_append,List.length_take,List.length_drop,List.length_map,List.length_cons,List.length_nil];omega)) fun c5 HN sN eN=>?_
    have sJN:=sJL.trans (sM.trans sN)
    refine ⟨s5.trans sJN,by simp [hl5],fun x hx=>?_⟩
    rcases List.mem_append.mp hx with h|h
    · exact (ho5 x h).same sJN
    · rw [List.mem_singleton.mp h]
      refine .inr ⟨c5,_,rfl,eN,.inr ⟨by simp only [List.length_append,List.length_take,List.length_drop,List.length_map,List.length_cons,List.length_nil];omega,fun y hy=>?_,e,by simp,hbad e hem⟩⟩
      have krow:=yhg (K:=K) (H:=HN) row
      rcases List.mem_append.mp hy with hy|hy
      · rcases List.mem_append.mp hy with hy|hy
        · exact krow y (List.mem_of_mem_take hy)
        · rw [List.mem_singleton.mp hy];exact hkd ((s5.trans sJN) _ _ et1) e hem
      · exact krow y (List.mem_of_mem_drop hy)
  rw [hodl]
  rintro acc H5 ⟨s5,hl5,ho5⟩ so hso
  have s6:=zac hso (.lst acc)
  have eso:upd H5 so (.lst acc) so=some (.lst acc):=zab
  dsimp only [zau]
  have s56:=s5.trans s6
  have ha6:=s56 _ _ ha4
  have ho6:=zfo s6 ho5
  generalize upd H5 so (.lst acc)=H6 at s6 eso s56 ha6 ho6 ⊢
  have hrl:(row.map Vn).length=n:=by rw [List.length_map,hl]
  refine ⟨_,rfl,_,rfl,a,_,rfl,.inr (SqT.of ha6),fun d1 hd1=>?_⟩
  have u1:=zac hd1 (.lst (row.map Vn))
  have o1:OddT K (upd H6 d1 (.lst (row.map Vn))) n (p^m) (.ref d1):=zbH (T:="list") (.inl ⟨rfl,_,SqL.of zab⟩) (by decide)
  have hb1:=u1 _ _ ha6
  generalize upd H6 d1 (.lst (row.map Vn))=H7 at u1 o1 hb1 ⊢
  refine ⟨_,rfl,szl 1,fun z1 hz1=>?_⟩
  have u2':=zac hz1 (.tup [V.int 0])
  refine zdK (SqT.of (u2' _ _ hb1)) (SqT.of zab) (szl _ (by rw [hrl];show _+1≤_;omega)) fun d2 H8 u2'' e2=>?_
  have u2:=u2'.trans u2''
  have hb2:=u2 _ _ hb1
  have o2:OddT K H8 n (p^m) (.ref d2):=zcn e2 (by rw [List.length_append,hrl];show n+1≠n;omega)
  refine ⟨_,rfl,(1:Int),rfl,?_⟩
  refine yfn ?_
  rw [show (1:Int)=((1:Nat):Int) from rfl]
  refine zfG (SqT.of hb2) fun d3 H9 u3 e3=>?_
  have hb3:=u3 _ _ hb2
  have o3:OddT K H9 n (p^m) (.ref d3):=zcn e3 (by rw [List.length_drop,hrl];omega)
  refine ⟨_,rfl,_,rfl,?_⟩
  refine zdK (SqT.of hb3) (SqT.of hb3) (szl _ (by rw [hrl];omega)) fun d4 HA u4 e4=>?_
  have hb4:=u4 _ _ hb3
  have o4:OddT K HA n (p^m) (.ref d4):=zcn e4 (by rw [List.length_append,hrl];omega)
  refine ⟨_,rfl,szl 1,fun d5 hd5=>?_⟩
  have u5:=zac hd5 (.tup [V.ref a])
  have hb5:=u5 _ _ hb4
  have o5:OddT K (upd HA d5 (.tup [V.ref a])) n (p^m) (.ref d5):=by
    by_cases c:1=n
    · refine .inr ⟨d5,_,rfl,SqT.of zab,.inr ⟨c,fun e he=>?_,V.ref a,List.mem_cons_self,fun i hi=>by cases hi⟩⟩
      rw [List.mem_singleton.mp he]
      exact ⟨"tuple",.inl (.inr ⟨rfl,_,SqT.of hb5⟩)⟩
    · exact zcn (SqT.of zab) c
  generalize upd HA d5 (.tup [V.ref a])=HB at u5 hb5 o5 ⊢
  refine ⟨szl 0,fun d6 hd6=>?_⟩
  have u6:=zac hd6 (.tup [])
  have o6:OddT K (upd HB d6 (.tup [])) n (p^m) (.ref d6):=zcn (SqT.of zab) (by show 0≠n;omega)
  have hb6:=u6 _ _ hb5
  generalize upd HB d6 (.tup [])=HC at u6 o6 hb6 ⊢
  intro d7 hd7
  have u7:=zac hd7 (.dK [])
  have o7:OddT K (upd HC d7 (.dK [])) n (p^m) (.ref d7):=.inl ⟨"dict",.inr ⟨rfl,d7,_,rfl,zab⟩,by decide⟩
  have hb7:=u7 _ _ hb6
  generalize upd HC d7 (.dK [])=HD at u7 o7 hb7 ⊢
  refine ⟨_,rfl,a,_,_,Vn (row.getD 0 0),rfl,rfl,SqT.of hb7,yaw (j:=0) (zat (by omega)),szl 11,fun l2 hl2=>?_⟩
  have u8:=zac hl2 (.lst [V.ref d1,V.ref d2,V.ref d3,V.ref d4,V.ref d5,V.ref d6,V.non,V.int 0,V.str "word",V.ref d7,Vn (row.getD 0 0)])
  have u27:=u2.trans (u3.trans (u4.trans (u5.trans (u6.trans u7))))
  refine ⟨so,l2,_,_,rfl,rfl,(u1.trans (u27.trans u8)) _ _ eso,zab,szl _ (by rw [hl5];show 8+11≤100000;decide),fun s2 hs2=>?_⟩
  have u9:=zac hs2 (.lst (acc++[V.ref d1,V.ref d2,V.ref d3,V.ref d4,V.ref d5,V.ref d6,V.non,V.int 0,V.str "word",V.ref d7,Vn (row.getD 0 0)]))
  have u89:=u8.trans u9
  have zs9:∀x∈[V.ref d1,V.ref d2,V.ref d3,V.ref d4,V.ref d5,V.ref d6,V.non,V.int 0,V.str "word",V.ref d7,Vn (row.getD 0 0)],OddT K (upd (upd HD l2 (.lst [V.ref d1,V.ref d2,V.ref d3,V.ref d4,V.ref d5,V.ref d6,V.non,V.int 0,V.str "word",V.ref d7,Vn (row.getD 0 0)])) s2 (.lst (acc++[V.ref d1,V.ref d2,V.ref d3,V.ref d4,V.ref d5,V.ref d6,V.non,V.int 0,V.str "word",V.ref d7,Vn (row.getD 0 0)]))) n (p^m) x:=fun x hx=>by
    simp only [List.mem_cons,List.not_mem_nil,or_false] at hx
    rcases hx with rfl|rfl|rfl|rfl|rfl|rfl|rfl|rfl|rfl|rfl|rfl
    · exact o1.same (u27.trans u89)
    · exact o2.same (u3.trans (u4.trans (u5.trans (u6.trans (u7.trans u89)))))
    · exact o3.same (u4.trans (u5.trans (u6.trans (u7.trans u89))))
    · exact o4.same (u5.trans (u6.trans (u7.trans u89)))
    · exact o5.same (u6.trans (u7.trans u89))
    · exact o6.same (u7.trans u89)
    · exact zbH (T:="NoneType") rfl (by decide)
    · exact zbH (T:="int") rfl (by decide)
    · exact zbH (T:="str") rfl (by decide)
    · exact o7.same u89
    · exact zbH (T:="int") rfl (by decide)
  have u69:=u1.trans (u27.trans u89)
  have ac9:=zfo u69 ho6
  have all9:∀x∈acc++[V.ref d1,V.ref d2,V.ref d3,V.ref d4,V.ref d5,V.ref d6,V.non,V.int 0,V.str "word",V.ref d7,Vn (row.getD 0 0)],OddT K (upd (upd HD l2 (.lst [V.ref d1,V.ref d2,V.ref d3,V.ref d4,V.ref d5,V.ref d6,V.non,V.int 0,V.str "word",V.ref d7,Vn (row.getD 0 0)])) s2 (.lst (acc++[V.ref d1,V.ref d2,V.ref d3,V.ref d4,V.ref d5,V.ref d6,V.non,V.int 0,V.str "word",V.ref d7,Vn (row.getD 0 0)]))) n (p^m) x:=fun x hx=>(List.mem_append.mp hx).elim (ac9 x) (zs9 x)
  have len9:(acc++[V.ref d1,V.ref d2,V.ref d3,V.ref d4,V.ref d5,V.ref d6,V.non,V.int 0,V.str "word",V.ref d7,Vn (row.getD 0 0)]).length=19:=by rw [List.length_append,hl5];rfl
  have es2:upd (upd HD l2 (.lst [V.ref d1,V.ref d2,V.ref d3,V.ref d4,V.ref d5,V.ref d6,V.non,V.int 0,V.str "word",V.ref d7,Vn (row.getD 0 0)])) s2 (.lst (acc++[V.ref d1,V.ref d2,V.ref d3,V.ref d4,V.ref d5,V.ref d6,V.non,V.int 0,V.str "word",V.ref d7,Vn (row.getD 0 0)])) s2=some (.lst (acc++[V.ref d1,V.ref d2,V.ref d3,V.ref d4,V.ref d5,V.ref d6,V.non,V.int 0,V.str "word",V.ref d7,Vn (row.getD 0 0)])):=zab
  have u49:=s56.trans u69
  have ha9:=u49 _ _ ha4
  dsimp only [zau]
  generalize (upd (upd HD l2 (.lst [V.ref d1,V.ref d2,V.ref d3,V.ref d4,V.ref d5,V.ref d6,V.non,V.int 0,V.str "word",V.ref d7,Vn (row.getD 0 0)])) s2 (.lst (acc++[V.ref d1,V.ref d2,V.ref d3,V.ref d4,V.ref d5,V.ref d6,V.non,V.int 0,V.str "word",V.ref d7,Vn (row.getD 0 0)])))=HE at u89 u69 u49 ha9 all9 es2 ac9 zs9 ⊢
  generalize acc++[V.ref d1,V.ref d2,V.ref d3,V.ref d4,V.ref d5,V.ref d6,V.non,V.int 0,V.str "word",V.ref d7,Vn (row.getD 0 0)]=ys at all9 len9 es2 ⊢
  refine ⟨_,rfl,_,rfl,_,rfl,(at_:Int),rfl,zgs (SqT.of ha9) fun c1 HF v1 e1=>?_⟩
  refine ⟨_,rfl,_,rfl,_,_,rfl,rfl,((at_:Int)+1),rfl,?_⟩
  refine yfn ?_
  rw [show (at_:Int)+1=((at_+1:Nat):Int) by omega]
  refine zfG (SqT.of (v1 _ _ ha9)) fun c2 HG v2 e2'=>?_
  refine zdK (Same.tup v2 e1) e2' (szl _ (by simp only [List.length_take,List.length_drop,List.length_map];omega)) fun c3 HI v3 e3'=>?_
  have v13:=v1.trans (v2.trans v3)
  have haI:=v13 _ _ ha9
  have p1:OddT K HI n (p^m) (.ref c3):=zcn e3' (by simp only [List.length_append,List.length_take,List.length_drop,List.length_map];omega)
  refine ⟨_,rfl,(n:Int),by rw [hrl],by omega,by omega,?_⟩
  refine zar zaK (fun k acc H'=>Same HI H'∧∃ts:List Addr,acc=ts.map V.ref∧ts.length=k∧∀(j:Nat) t',ts[j]?=some t'→H' t'=some (.tup [Vn j,Vn (row.getD j 0)])) ⟨Same.refl _,([]:List Addr),rfl,rfl,fun j t' h=>absurd h (by simp)⟩ (fun _ _ _ _ _=>trivial) ?_ ?_ ?_
  · rintro k acc H' hk ⟨_,ts,rfl,hl',_⟩
    rw [Int.toNat_natCast] at hk
    rw [List.length_map,hl'];exact zam (by omega)
  · rintro k acc z' H' H'' hk ⟨s',ts,rfl,hl',hts⟩ ⟨rfl,rfl⟩
    rw [Int.toNat_natCast] at hk
    refine ⟨_,rfl,_,rfl,_,rfl,a,_,_,Vn (row.getD k 0),rfl,rfl,SqT.of (s' _ _ haI),by rw [Int.zero_add];exact yaw (zat (by omega)),szl 2,fun b' hb'=>?_⟩
    rw [show V.int (0+(k:Int))=Vn k from ybN (Int.zero_add _)]
    have sn:=zac hb' (.tup [Vn k,Vn (row.getD k 0)])
    refine ⟨s'.trans sn,ts++[b'],by rw [List.map_append];rfl,by simp [hl'],fun j t' h=>?_⟩
    by_cases c:j<k
    · rw [List.getElem?_append_left (by omega)] at h
      exact sn _ _ (hts j t' h)
    · have ej:j=k:=by
        have:=(List.getElem?_eq_some_iff.mp h).1
        simp [hl'] at this;omega
      subst ej
      rw [List.getElem?_append_right (by omega),hl',Nat.sub_self] at h
      cases h
      exact zab
  rw [Int.toNat_natCast]
  rintro acc' HJ ⟨w1,ts,rfl,htl,hts⟩ dl hdl
  have w2:=zac hdl (.lst (ts.map V.ref))
  refine ⟨dl,ts,(List.range n).map fun k:Nat=>((Sum.inl (k:Int):Key),Vn (row.getD k 0)),rfl,zab,by rw [List.length_map,List.length_range];exact htl,by rw [List.length_map,List.length_range];exact szl _ (by omega),fun j t' kv h1 h2=>?_,?_,fun dd hdd=>?_⟩
  · have hj:j<n:=by rw [←htl];exact (List.getElem?_eq_some_iff.mp h1).1
    rw [List.getElem?_map,List.getElem?_range hj] at h2
    cases h2
    rw [w2 _ _ (hts j t' h1)];rfl
  · rw [List.map_map]
    refine List.Pairwise.map _ (fun x y h=>?_) (List.pairwise_lt_range (n:=n))
    intro e
    have:=Int.ofNat.inj (Sum.inl.inj e)
    omega
  have w3:=zac hdd (.dK ((List.range n).map fun k:Nat=>((Sum.inl (k:Int):Key),Vn (row.getD k 0))))
  have p2:OddT K (upd (upd HJ dl (.lst (ts.map V.ref))) dd (.dK ((List.range n).map fun k:Nat=>((Sum.inl (k:Int):Key),Vn (row.getD k 0))))) n (p^m) (.ref dd):=.inl ⟨"dict",.inr ⟨rfl,dd,_,rfl,zab⟩,by decide⟩
  have w13:=w1.trans (w2.trans w3)
  have haK:=w13 _ _ haI
  generalize upd (upd HJ dl (.lst (ts.map V.ref))) dd (.dK ((List.range n).map fun k:Nat=>((Sum.inl (k:Int):Key),Vn (row.getD k 0))))=HK at w3 p2 w13 haK ⊢
  refine ⟨_,rfl,szl 1,fun l5 hl5'=>?_⟩
  have w4:=zac hl5' (.lst [V.ref a])
  have p3:OddT K (upd HK l5 (.lst [V.ref a])) n (p^m) (.ref l5):=zbH (T:="list") (.inl ⟨rfl,_,SqL.of zab⟩) (by decide)
  have haL:=w4 _ _ haK
  generalize upd HK l5 (.lst [V.ref a])=HL at w4 p3 haL ⊢
  refine ⟨_,rfl,_,rfl,.inr ⟨a,_,rfl,zgA (k:=8) (SqT.of haL),ygH (fun x hx=>by have:=hrow x hx;omega) (by omega)⟩,fun z2=>?_⟩
  refine ⟨szl 4,fun l6 hl6=>?_⟩
  have w5:=zac hl6 (.lst [V.ref c3,V.ref dd,V.ref l5,V.str z2])
  have wE:=v13.trans (w13.trans (w4.trans w5))
  refine ⟨s2,l6,_,_,rfl,rfl,wE _ _ es2,zab,szl _ (by rw [len9];show 19+4≤100000;decide),fun r hr=>?_⟩
  have w6:=zac hr (.lst (ys++[V.ref c3,V.ref dd,V.ref l5,V.str z2]))
  have wE6:=wE.trans w6
  have hPE:=hP4.same u49
  refine q r _ _ zab (by rw [List.length_append,len9];show 19+4≤100;decide) (fun x hx=>?_) ((hPE.same wE).lt hr) (hPE.same wE6) (sx4.trans (Same.x (u49.trans wE6)))
  rcases List.mem_append.mp hx with h|h
  · exact (all9 x h).same wE6
  · simp only [List.mem_cons,List.not_mem_nil,or_false] at h
    rcases h with rfl|rfl|rfl|rfl
    · exact p1.same (w13.trans (w4.trans (w5.trans w6)))
    · exact p2.same (w4.trans (w5.trans w6))
    · exact p3.same (w5.trans w6)
    · exact zbH (T:="str") rfl (by decide)
theorem zfZ {p m t few:Nat} (G:Good p m t):2≤(lets p m t few).length:=by
  have h0:=ycM (few:=few) G
  have h1:1∈lets p m t few:=by rw [ybI G (zaM G.hp G.hm)];exact zcb G.hp G.hm _
  have nd:(lets p m t few).Nodup:=List.Nodup.sublist List.filter_sublist List.nodup_range
  have:=ze6 (l:=[0,1]) (l':=lets p m t few) (by decide) (fun x hx=>by
    simp only [List.mem_cons,List.not_mem_nil,or_false] at hx
    rcases hx with rfl|rfl
    · exact h0
    · exact h1)
  exact this
end
end My
end
section
-- text: R46
namespace My
open PySem L2 Dg
section
variable {P:Program} {w:World} {K:PySem.W.Frag} {mg:Str→Option Value} {base:Heap} {f:Addr} {fd:FuncData}
theorem yfs {ns':List Int} {qs:List Nat} {n:Nat} (h:ns'.Perm (qs.map fun x:Nat=>(x:Int))) (hq:∀y∈qs,y<n):∃ls:List Nat,ns'.map V.int=ls.map Vn∧ls.length=qs.length∧∀y∈ls,y<n:=by
  have hm:∀z∈ns',∃y:Nat,y<n∧z=(y:Int):=fun z hz=>by
    obtain ⟨y,hy,rfl⟩:=List.mem_map.mp (h.mem_iff.mp hz)
    exact ⟨y,hq y hy,rfl⟩
  refine ⟨ns'.map Int.toNat,?_,?_,fun y hy=>?_⟩
  · rw [List.map_map]
    refine List.map_congr_left fun z hz=>?_
    obtain ⟨y,_,rfl⟩:=hm z hz
    rfl
  · rw [List.length_map,h.length_eq,List.length_map]
  · obtain ⟨z,hz,rfl⟩:=List.mem_map.mp hy
    obtain ⟨y,hy2,rfl⟩:=hm z hz
    exact hy2
def zdR (K:PySem.W.Frag):Sp:=fun vs H Q _=>∃(a:Addr) (ns:List Int),vs=[.ref a]∧SqL K H a (ns.map V.int)∧∀H',Q (.bl true) H'
theorem zaO:yaj ["_law_script","_law_purse_here","_law_turn","_law_way","_law_most","_law_table_here","_law_wheel_here","_law_n","_law_paper_here","_law_some","_law_left","_law_lost","_law_k","_law_word","_law_other","_law_half","_law_got","_law_place","_law_things","_law_thing","_law_again","_law_found","_law_due_here"] ["_law_script"] (zad zcY):=⟨rfl,rfl,rfl,by decide +kernel,rfl,by decide +kernel,by decide +kernel⟩
theorem yg3 (B:Bl mg) (h__law_purse:Has P w K mg base 1 "_law_purse" ["_law_script"] (yej K)) (h__law_pick:Has P w K mg base 1 "_law_pick" ["_law_purse_here","_law_many"] zbN) (h__law_rich:Has P w K mg base 6 "_law_rich" ["_law_purse_here","_law_most"] zel) (h__law_paper:Has P w K mg base 2 "_law_paper" ["_law_purse_here","_law_wheel_here","_law_n"] zdF) (h__law_letters:Has P w K mg base 2 "_law_letters" ["_law_table_here","_law_few"] yb7)
    (h__law_drawn_word:Has P w K mg base 5 "_law_drawn_word" ["_law_purse_here","_law_table_here","_law_wheel_here","_law_n"] ydB) (h__law_faulty:Has P w K mg base 2 "_law_faulty" ["_law_purse_here","_law_some","_law_word","_law_many"] ydz) (h_shows_lost:Has P w K mg base 9 "shows_lost" ["wheel","paper","got","lost","thing"] (zev K)) (h__law_due:Has P w K mg base 4 "_law_due" ["_law_table_here","_law_wheel_here","_law_paper_here","_law_got","_law_lost","_law_thing"] (zek K)) (h__law_odd:Has P w K mg base 2 "_law_odd" ["_law_purse_here","_law_table_here","_law_word"] (zfi K)) (F:Fun K "law" "law" zcY f fd):FnOk P w K mg base CX0 10 f fd ["_law_script"] (zdR K):=by
  refine F.ok zaO (fun vs H Q E h=>?_) (fun cdv A outer s H vs Q E hr h=>?_)
  · obtain ⟨a,ns,rfl,_⟩:=h;rfl
  obtain ⟨a,ns,rfl,ha,q⟩:=h
  refine ⟨_,(@yab _ _ _ _ _ (@zag _ _ 1 _ _ _ _ zaO.nd rfl (Or.inr rfl) (@yad _ _ _ _ _ _ _ _ _ _ _ h__law_purse hr (by decide) rfl (@zaa _ _ _ _ _ (pv 0) yaa (by rfl)) (by decide) (by rfl) (by rfl)) (by rfl) (by trivial)) (@yab _ _ _ _ _ (@yaD _ _ _ _ _ _ _ _ PassesOwn.never rfl (@yau _ _ _ _ _ _ rfl (B "range" (by decide)) (@zaa _ _ _ _ _ yac yaa (by rfl)) (by rfl)) (@yae _ _ 2 _ zaO.nd rfl (Or.inl rfl) (by trivial)) (@yab _ _ _ _ _ (@ybB _ _ 3 4 _ _ _ _ _ _ _ _ _ _ _ rfl zaO.nd rfl rfl (by decide) rfl rfl (@zaa _ _ _ _ _ (@yad _ _ _ _ _ _ _ _ _ _ _ h__law_pick hr (by decide) rfl (@zaa _ _ _ _ _ (pv 1) (@zaa _ _ _ _ _ yac yaa (by rfl)) (by rfl)) (by decide) (by rfl) (by rfl)) (@zaa _ _ _ _ _ (@zan _ _ _ _ _ _ _ zaq (@zaE _ _ _ _ (@zaa _ _ _ _ _ yac (@zaa _ _ _ _ _ yac (@zaa _ _ _ _ _ yac (@zaa _ _ _ _ _ yac yaa (by rfl)) (by rfl)) (by rfl)) (by rfl))) (@yad _ _ _ _ _ _ _ _ _ _ _ h__law_pick hr (by decide) rfl (@zaa _ _ _ _ _ (pv 1) (@zaa _ _ _ _ _ yac yaa (by rfl)) (by rfl)) (by decide) (by rfl) (by rfl)) (fun _ _=>rfl)) yaa (by rfl)) (by rfl)) rfl (by rfl)) (@yab _ _ _ _ _ (@za6 _ _ _ _ _ _ (@yad _ _ _ _ _ _ _ _ _ _ _ h__law_rich hr (by decide) rfl (@zaa _ _ _ _ _ (pv 1) (@zaa _ _ _ _ _ (pv 4) yaa (by rfl)) (by rfl)) (by decide) (by rfl) (by rfl)) (@ya8 _ _ _ _ _ _ rfl (@zah _ _ _ _ _ (@yae _ _ 5 _ zaO.nd rfl (Or.inl rfl) (by trivial)) (@zah _ _ _ _ _ (@yae _ _ 6 _ zaO.nd rfl (Or.inl rfl) (by trivial)) (@zah _ _ _ _ _ (@yae _ _ 7 _ zaO.nd rfl (Or.inl rfl) (by trivial)) yaH (by rfl)) (by rfl)) (by rfl)) (by rfl) (by rfl)) (by rfl) (by rfl) (by rfl)) (@yab _ _ _ _ _ (@za6 _ _ _ _ _ _ (@zaR _ _ _ _ _ (@zaa _ _ _ _ _ (@yad _ _ _ _ _ _ _ _ _ _ _ h__law_paper hr (by decide) rfl (@zaa _ _ _ _ _ (pv 1) (@zaa _ _ _ _ _ (pv 6) (@zaa _ _ _ _ _ (pv 7) yaa (by rfl)) (by rfl)) (by rfl)) (by decide) (by rfl) (by rfl)) (@zaa _ _ _ _ _ (@yad _ _ _ _ _ _ _ _ _ _ _ h__law_letters hr (by decide) rfl (@zaa _ _ _ _ _ (pv 5) (@zaa _ _ _ _ _ (@zan _ _ _ _ _ _ _ yas (pv 6) yac (fun _ _=>rfl)) yaa (by rfl)) (by rfl)) (by decide) (by rfl) (by rfl)) yaa (by rfl)) (by rfl))) (@ya8 _ _ _ _ _ _ rfl (@zah _ _ _ _ _ (@yae _ _ 8 _ zaO.nd rfl (Or.inl rfl) (by trivial)) (@zah _ _ _ _ _ (@yae _ _ 9 _ zaO.nd rfl (Or.inr rfl) (by trivial)) yaH (by rfl)) (by rfl)) (by rfl) (by rfl)) (by rfl) (by rfl) (by rfl)) (@yab _ _ _ _ _ (@ybB _ _ 10 11 _ _ _ _ _ _ _ _ _ _ _ rfl zaO.nd rfl rfl (by decide) rfl rfl (@zaa _ _ _ _ _ (@yaq _ _ _ _ _ _ _ _ _ (zbK rfl) rfl (B "list" (by decide)) zaP (@zaa _ _ _ _ _ (@ycQ _ _ _ _ _ rfl (B "range" (by decide)) (@zaa _ _ _ _ _ (pv 7) yaa (by rfl)) (by rfl)) yaa (by rfl)) (by decide) (by decide) (by rfl) (by rfl)) (@zaa _ _ _ _ _ (@zaE _ _ _ _ yaa) yaa (by rfl)) (by rfl)) rfl (by rfl)) (@yab _ _ _ _ _ (@yaD _ _ _ _ _ _ _ _ PassesOwn.never rfl (@yau _ _ _ _ _ _ rfl (B "range" (by decide)) (@zaa _ _ _ _ _ (@yad _ _ _ _ _ _ _ _ _ _ _ h__law_pick hr (by decide) rfl (@zaa _ _ _ _ _ (pv 1) (@zaa _ _ _ _ _ (@yaf _ _ _ _ _ _ _ _ yar (@zan _ _ _ _ _ _ _ yas (pv 8) yac (fun _ _=>rfl)) yac) yaa (by rfl)) (by rfl)) (by decide) (by rfl) (by rfl)) yaa (by rfl)) (by rfl)) (@yae _ _ 12 _ zaO.nd rfl (Or.inl rfl) (by trivial)) (@zae _ _ _ (@ybV _ _ _ _ (@zcG _ _ _ _ _ _ _ _ _ _ _ _ PySem.F.plainAttrs_list PySem.F.slot_list_append PySem.F.type_list_append ybp (pv 11) (@zaa _ _ _ _ _ (@zcG _ _ _ _ _ _ _ _ _ _ _ _ PySem.F.plainAttrs_list PySem.F.slot_list_pop PySem.F.type_list_pop ydh (pv 10) (@zaa _ _ _ _ _ (@yad _ _ _ _ _ _ _ _ _ _ _ h__law_pick hr (by decide) rfl (@zaa _ _ _ _ _ (pv 1) (@zaa _ _ _ _ _ (@zak _ _ _ _ _ _ _ _ _ yah rfl (B "len" (by decide)) PySem.boot_len (@zaa _ _ _ _ _ (pv 10) yaa (by rfl)) (by decide) (by decide) (by rfl) (by rfl)) yaa (by rfl)) (by rfl)) (by decide) (by rfl) (by rfl)) yaa (by rfl)) (by rfl) (by rfl) (by rfl) (by rfl) (by rfl)) yaa (by rfl)) (by rfl) (by rfl) (by rfl) (by rfl) (by rfl)) (by rfl))) (by intro _;rfl)) (@yab _ _ _ _ _ (@ybB _ _ 13 14 _ _ _ _ _ _ _ _ _ _ _ rfl zaO.nd rfl rfl (by decide) rfl rfl (@zaa _ _ _ _ _ (@yad _ _ _ _ _ _ _ _ _ _ _ h__law_drawn_word hr (by decide) rfl (@zaa _ _ _ _ _ (pv 1) (@zaa _ _ _ _ _ (pv 5) (@zaa _ _ _ _ _ (pv 6) (@zaa _ _ _ _ _ (pv 7) yaa (by rfl)) (by rfl)) (by rfl)) (by rfl)) (by decide) (by rfl) (by rfl)) (@zaa _ _ _ _ _ (@yad _ _ _ _ _ _ _ _ _ _ _ h__law_drawn_word hr (by decide) rfl (@zaa _ _ _ _ _ (pv 1) (@zaa _ _ _ _ _ (pv 5) (@zaa _ _ _ _ _ (pv 6) (@zaa _ _ _ _ _ (pv 7) yaa (by rfl)) (by rfl)) (by rfl)) (by rfl)) (by decide) (by rfl) (by rfl)) yaa (by rfl)) (by rfl)) rfl (by rfl)) (@yab _ _ _ _ _ (@ybB _ _ 15 11 _ _ _ _ _ _ _ _ _ _ _ rfl zaO.nd rfl rfl (by decide) rfl rfl (@zaa _ _ _ _ _ (@yaf _ _ _ _ _ _ _ _ ycq (@yaf _ _ _ _ _ _ _ _ ybq (@zan _ _ _ _ _ _ _ yas (pv 8) yac (fun _ _=>rfl)) (@zak _ _ _ _ _ _ _ _ _ yah rfl (B "len" (by decide)) PySem.boot_len (@zaa _ _ _ _ _ (pv 11) yaa (by rfl)) (by decide) (by decide) (by rfl) (by rfl))) yac) (@zaa _ _ _ _ _ (@yaq _ _ _ _ _ _ _ _ _ zaI rfl (B "tuple" (by decide)) yaA (@zaa _ _ _ _ _ (@zak _ _ _ _ _ _ _ _ _ ycG rfl (B "sorted" (by decide)) yby (@zaa _ _ _ _ _ (pv 11) yaa (by rfl)) (by decide) (by decide) (by rfl) (by rfl)) yaa (by rfl)) (by decide) (by decide) (by rfl) (by rfl)) yaa (by rfl)) (by rfl)) rfl (by rfl)) (@yab _ _ _ _ _ (@zag _ _ 16 _ _ _ _ zaO.nd rfl (Or.inl rfl) (@zan _ _ _ _ _ _ _ yas (@yad _ _ _ _ _ _ _ _ _ _ _ h__law_faulty hr (by decide) rfl (@zaa _ _ _ _ _ (pv 1) (@zaa _ _ _ _ _ (pv 9) (@zaa _ _ _ _ _ (pv 13) (@zaa _ _ _ _ _ (@zak _ _ _ _ _ _ _ _ _ (ydC rfl) rfl (B "min" (by decide)) zcQ (@zaa _ _ _ _ _ (pv 7) (@zaa _ _ _ _ _ (@zan _ _ _ _ _ _ _ zaq (@zaE _ _ _ _ (@zaa _ _ _ _ _ yac (@zaa _ _ _ _ _ (pv 15) (@zaa _ _ _ _ _ (@yaf _ _ _ _ _ _ _ _ yar (pv 15) yac) (@zaa _ _ _ _ _ (@yad _ _ _ _ _ _ _ _ _ _ _ h__law_pick hr (by decide) rfl (@zaa _ _ _ _ _ (pv 1) (@zaa _ _ _ _ _ (@yaf _ _ _ _ _ _ _ _ yar (pv 7) yac) yaa (by rfl)) (by rfl)) (by decide) (by rfl) (by rfl)) yaa (by rfl)) (by rfl)) (by rfl)) (by rfl))) (pv 3) (fun _ _=>rfl)) yaa (by rfl)) (by rfl)) (by decide) (by decide) (by rfl) (by rfl)) yaa (by rfl)) (by rfl)) (by rfl)) (by rfl)) (by decide) (by rfl) (by rfl)) yac (fun _ _=>rfl)) (by rfl) (by trivial)) (@yab _ _ _ _ _ (@zag _ _ 16 _ _ _ _ zaO.nd rfl (Or.inl rfl) (@yaq _ _ _ _ _ _ _ _ _ ybs rfl (B "list" (by decide)) zaP (@zaa _ _ _ _ _ (pv 16) yaa (by rfl)) (by decide) (by decide) (by rfl) (by rfl)) (by rfl) (by trivial)) (@yab _ _ _ _ _ (@yaD _ _ _ _ _ _ _ _ PassesOwn.never rfl (@zcA _ _ _ _ (pv 11)) (@yae _ _ 17 _ zaO.nd rfl (Or.inl rfl) (by trivial)) (@zae _ _ _ (@za6 _ _ _ _ _ _ (@zan _ _ _ _ _ _ _ zaq (pv 9) (@yad _ _ _ _ _ _ _ _ _ _ _ h__law_pick hr (by decide) rfl (@zaa _ _ _ _ _ (pv 1) (@zaa _ _ _ _ _ (@zak _ _ _ _ _ _ _ _ _ yah rfl (B "len" (by decide)) PySem.boot_len (@zaa _ _ _ _ _ (pv 9) yaa (by rfl)) (by decide) (by decide) (by rfl) (by rfl)) yaa (by rfl)) (by rfl)) (by decide) (by rfl) (by rfl)) (fun _ _=>rfl)) (@zcH _ _ _ _ _ _ _ (pv 16) (pv 17) ybM (by intro _;rfl)) (by rfl) (by rfl) (by rfl))) (by intro _;rfl)) (@yab _ _ _ _ _ (@zag _ _ 16 _ _ _ _ zaO.nd rfl (Or.inl rfl) (@yaq _ _ _ _ _ _ _ _ _ zaI rfl (B "tuple" (by decide)) yaA (@zaa _ _ _ _ _ (pv 16) yaa (by rfl)) (by decide) (by decide) (by rfl) (by rfl)) (by rfl) (by trivial)) (@yab _ _ _ _ _ (@zag _ _ 18 _ _ _ _ zaO.nd rfl (Or.inl rfl) (@zaE _ _ _ _ (@zaa _ _ _ _ _ (pv 13) (@zaa _ _ _ _ _ (pv 16) (@zaa _ _ _ _ _ (pv 14) yaa (by rfl)) (by rfl)) (by rfl))) (by rfl) (by trivial)) (@yab _ _ _ _ _ (@zag _ _ 18 _ _ _ _ zaO.nd rfl (Or.inl rfl) (@yaf _ _ _ _ _ _ _ _ zcB (pv 18) (@yaM _ _ _ _ _ _ _ ["_law_one"] ["_law_purse_here","_law_some"] [1,9] _ _ _ _ (id (α:=CSc ["_law_script","_law_purse_here","_law_turn","_law_way","_law_most","_law_table_here","_law_wheel_here","_law_n","_law_paper_here","_law_some","_law_left","_law_lost","_law_k","_law_word","_law_other","_law_half","_law_got","_law_place","_law_things","_law_thing","_law_again","_law_found","_law_due_here"] (zad zcY) ["_law_one"] ["_law_purse_here","_law_some"] [1,9] _) ⟨by rfl,by decide +kernel,by decide +kernel,by decide +kernel,by decide +kernel,by rfl,by decide +kernel⟩) rfl (@ya7 _ _ _ _ (pv 18)) (fun cl C fp s H=>(@yae _ _ 0 _ (by show List.Nodup (["_law_one","_law_purse_here","_law_some"]:List Str);decide +kernel) rfl (Or.inl rfl) (by trivial))) (fun _ _ _ _ _=>yaL) (fun _ _ _ _ _=>(@zan _ _ _ _ _ _ _ (ybg (K:=K) rfl) (@yad _ _ _ _ _ _ _ _ _ _ _ h__law_faulty hr (by decide) rfl (@zaa _ _ _ _ _ (pv 1) (@zaa _ _ _ _ _ (pv 2) (@zaa _ _ _ _ _ (pv 0) (@zaa _ _ _ _ _ yac yaa (by rfl)) (by rfl)) (by rfl)) (by rfl)) (by decide) (by rfl) (by rfl)) yac (fun _ _=>rfl))) (by intro _;rfl))) (by rfl) (by trivial)) (@yab _ _ _ _ _ (@yaD _ _ _ _ _ _ _ _ PassesOwn.never rfl (@ya7 _ _ _ _ (pv 18)) (@yae _ _ 19 _ zaO.nd rfl (Or.inl rfl) (by trivial)) (@zae _ _ _ (@yaD _ _ _ _ _ _ _ _ PassesOwn.never rfl (@yau _ _ _ _ _ _ rfl (B "range" (by decide)) (@zaa _ _ _ _ _ yac yaa (by rfl)) (by rfl)) (@yae _ _ 20 _ zaO.nd rfl (Or.inl rfl) (by trivial)) (@yab _ _ _ _ _ (@zag _ _ 21 _ _ _ _ zaO.nd rfl (Or.inl rfl) (@yad _ _ _ _ _ _ _ _ _ _ _ h_shows_lost hr (by decide) rfl (@zaa _ _ _ _ _ (pv 6) (@zaa _ _ _ _ _ (pv 8) (@zaa _ _ _ _ _ (pv 16) (@zaa _ _ _ _ _ (pv 11) (@zaa _ _ _ _ _ (pv 19) yaa (by rfl)) (by rfl)) (by rfl)) (by rfl)) (by rfl)) (by decide) (by rfl) (by rfl)) (by rfl) (by trivial)) (@yab _ _ _ _ _ (@zag _ _ 22 _ _ _ _ zaO.nd rfl (Or.inl rfl) (@yad _ _ _ _ _ _ _ _ _ _ _ h__law_due hr (by decide) rfl (@zaa _ _ _ _ _ (pv 5) (@zaa _ _ _ _ _ (pv 6) (@zaa _ _ _ _ _ (pv 8) (@zaa _ _ _ _ _ (pv 16) (@zaa _ _ _ _ _ (pv 11) (@zaa _ _ _ _ _ (pv 19) yaa (by rfl)) (by rfl)) (by rfl)) (by rfl)) (by rfl)) (by rfl)) (by decide) (by rfl) (by rfl)) (by rfl) (by trivial)) (@zae _ _ _ (@yba _ _ _ _ _ _ _ _ (@PW.pt _ _ _ (@yd4 _ _ _ _ _ _ _ (@yep _ _ _ _ (@zdy _ _ _ (@zak _ _ _ _ _ _ _ _ _ ydX rfl (B "isinstance" (by decide)) PyProof.Rows.boot_isinstance (@zaa _ _ _ _ _ (pv 21) (@zaa _ _ _ _ _ (@zdu _ _ _ _ _ rfl (B "bool" (by decide)) zcq (id (α:=RelV (.ty "bool") (.type "bool")) rfl) (by decide) (by decide)) yaa (by rfl)) (by rfl)) (by decide) (by decide) (by rfl) (by rfl)) (by intro _;rfl))) (@zcJ _ _ _ _ (@zai _ _ _ _ _ _ _ _ zdr (pv 21) (pv 22) (yal _))))) (@zae _ _ _ (@zal _ _ _ _ yci)) zax)))) (by intro _;rfl))) (by intro _;rfl)) (@zae _ _ _ (@yaD _ _ _ _ _ _ _ _ PassesOwn.never rfl (@ya7 _ _ _ _ (@yad _ _ _ _ _ _ _ _ _ _ _ h__law_odd hr (by decide) rfl (@zaa _ _ _ _ _ (pv 1) (@zaa _ _ _ _ _ (pv 5) (@zaa _ _ _ _ _ (pv 13) yaa (by rfl)) (by rfl)) (by rfl)) (by decide) (by rfl) (by rfl))) (@yae _ _ 19 _ zaO.nd rfl (Or.inl rfl) (by trivial)) (@zae _ _ _ (@yba _ _ _ _ _ _ _ _ (@zai _ _ _ _ _ _ _ _ zgN (@yad _ _ _ _ _ _ _ _ _ _ _ h_shows_lost hr (by decide) rfl (@zaa _ _ _ _ _ (pv 6) (@zaa _ _ _ _ _ (pv 8) (@zaa _ _ _ _ _ (pv 16) (@zaa _ _ _ _ _ (pv 11) (@zaa _ _ _ _ _ (pv 19) yaa (by rfl)) (by rfl)) (by rfl)) (by rfl)) (by rfl)) (by decide) (by rfl) (by rfl)) yci (yal _)) (@zae _ _ _ (@zal _ _ _ _ yci)) zax)) (by intro _;rfl))))))))))))))))) (by intro _;rfl)) (@zae _ _ _ (@zal _ _ _ _ yci)))),?_⟩
  refine ⟨_,rfl,a,ns,rfl,ha,fun pu g H1 n1 n2 s1 hP=>?_⟩
  refine ⟨2,rfl,by decide,by decide,?_⟩
  refine yaI (n:=2) (fun i σ H'=>Pu H' pu g∧∃s2 s3 s4 s5 s6 s7 s8 s9 s10 s11 s12 s13 s14 s15 s16 s17 s18 s19 s20 s21 s22,σ=[some (.ref a),some (.ref pu),s2,s3,s4,s5,s6,s7,s8,s9,s10,s11,s12,s13,s14,s15,s16,s17,s18,s19,s20,s21,s22]) ⟨hP,none,none,none,none,none,none,none,none,none,none,none,none,none,none,none,none,none,none,none,none,none,rfl⟩ ?_ (fun σ H' _=>q _)
  rintro j σ H2 hj ⟨hP2,s2,s3,s4,s5,s6,s7,s8,s9,s10,s11,s12,s13,s14,s15,s16,s17,s18,s19,s20,s21,s22,rfl⟩
  refine ⟨_,rfl,pu,g,4,rfl,hP2,by omega,by omega,fun way H3 hway hP3 sx3=>?_⟩
  refine ⟨szl 4,fun l0 hl0=>?_⟩
  have sl:=zac hl0 (.lst [.int 15,.int 15,.int 15,.int 63])
  have nl0:=hP3.lt hl0
  refine ⟨_,rfl,pu,g,4,rfl,hP3.same sl,by omega,by omega,fun wi H4 hwi hP4 sx4=>?_⟩
  have el:=sx4 _ _ nl0.1 nl0.2 (show upd H3 l0 (.lst [.int 15,.int 15,.int 15,.int 63]) l0=some (.lst [.int 15,.int 15,.int 15,.int 63]) from zab)
  obtain ⟨most,hmost,emost⟩:∃top:Nat,1≤top∧atI [V.int 15,.int 15,.int 15,.int 63] (wi:Int)=some (Vn top):=by
    have:wi=0∨wi=1∨wi=2∨wi=3:=by omega
    rcases this with rfl|rfl|rfl|rfl
    · exact ⟨15,by decide,rfl⟩
    · exact ⟨15,by decide,rfl⟩
    · exact ⟨15,by decide,rfl⟩
    · exact ⟨63,by decide,rfl⟩
  refine ⟨l0,_,_,Vn most,rfl,rfl,SqL.of el,emost,?_⟩
  refine ⟨_,_,rfl,?_⟩
  refine ⟨_,rfl,_,rfl,pu,g,most,rfl,hP4,hmost,fun r tb fa pa la wh mk p m t b few root n marks H5 er T ap hW nwh nmk W hn hP5 sx5=>?_⟩
  refine ⟨r,_,rfl,SqT.of er,rfl,_,_,rfl,_,_,rfl,_,_,rfl,rfl,?_⟩
  have G:=T.good
  have hQ:=G.hq
  have hnq:=W.nq
  have hn1:=W.ord.pos
  have hml:=yd7 W.asc W.lt
  have hf6:few≤6:=Nat.le_trans (Nat.le_of_dvd (by have:=G.hm;omega) (Nat.dvd_of_mod_eq_zero W.fewm)) (m_le G.hp hQ)
  have hp:=G.hp
  have hm:=G.hm
  have hq1:=zaM hp hm
  dsimp only [zau]
  refine ⟨_,rfl,_,rfl,_,rfl,pu,g,wh,fa,mk,few,root,n,marks,rfl,hP5,hW,nwh,nmk,hn1,by omega,W.asc,W.lt,fun pp f s np H6 epp npp hrow hP6 sx6=>?_⟩
  have T6:=T.x ap sx6
  have hW6:=hW.x nwh nmk sx6
  have hN64:np≤64:=by have:=hrow.le;omega
  refine ⟨_,rfl,_,rfl,wh,_,_,Vn few,rfl,rfl,SqT.of hW6.w,rfl,tb,fa,pa,la,p,m,t,b,few,rfl,T6,hf6,fun so H7 s7 fso eso=>?_⟩
  refine ⟨szl 2,fun t1 ht1=>?_⟩
  have s8:=zac ht1 (.tup [V.ref pp,V.ref so])
  refine ⟨t1,_,rfl,SqT.of zab,rfl,_,_,rfl,_,_,rfl,rfl,?_⟩
  dsimp only [zau]
  have nso:=hP6.lt fso
  have s78:=s7.trans s8
  have T8:=T6.same s78
  have hW8:=hW6.same s78
  have epp8:=s78 _ _ epp
  have eso8:=s8 _ _ eso
  have hP8:=hP6.same s78
  generalize upd H7 t1 (.tup [V.ref pp,V.ref so])=H8 at s8 s78 T8 hW8 epp8 eso8 hP8 ⊢
  have hlet:=ygQ G W
  refine ⟨_,rfl,(n:Int),rfl,fun rg hrg=>?_⟩
  have sa:=zac hrg (.rng 0 (n:Int))
  refine ⟨rg,0,(n:Int),rfl,zab,⟨by omega,by omega,by omega,by omega⟩,szl _ (by omega),fun le hle=>?_⟩
  have e1:L2.intsFrom 0 ((n:Int)-0).toNat=(List.range n).map Vn:=by
    rw [show ((n:Int)-0).toNat=n by omega]
    unfold L2.intsFrom
    refine List.map_congr_left fun i _=>?_
    exact ybN (Int.zero_add _)
  rw [e1]
  have sb:=zac hle (.lst ((List.range n).map Vn))
  refine ⟨szl 0,fun lo hlo=>?_⟩
  have sc:=zac hlo (.lst [])
  refine ⟨_,_,rfl,?_⟩
  dsimp only [zau]
  have nle:=(hP8.same sa).lt hle
  have nlo:=((hP8.same sa).same sb).lt hlo
  have fle:H8 le=none:=sa.free hle
  have flo:H8 lo=none:=(sa.trans sb).free hlo
  have n3:lo≠le:=fun e=>by rw [e,zab] at hlo;cases hlo
  have ele0:=sc _ _ (show upd (upd H8 rg (.rng 0 (n:Int))) le (.lst ((List.range n).map Vn)) le=some (.lst ((List.range n).map Vn)) from zab)
  have elo0:upd (upd (upd H8 rg (.rng 0 (n:Int))) le (.lst ((List.range n).map Vn))) lo (.lst []) lo=some (.lst (([]:List Nat).map Vn)):=zab
  have sac:=sa.trans (sb.trans sc)
  have hPc:=hP8.same sac
  generalize upd (upd (upd H8 rg (.rng 0 (n:Int))) le (.lst ((List.range n).map Vn))) lo (.lst [])=Hc at ele0 elo0 sac hPc ⊢
  have sxU:∀ {H':Hp} {l:Addr} {o:HO},yan pu g H8 H'→H8 l=none→yan pu g H8 (upd H' l o):=fun {H' l o} sx hn b u h1 h2 e=>by rw [yag (zaf e hn)];exact sx b u h1 h2 e
  have puU:∀ {H':Hp} {l:Addr} {o:HO},Pu H' pu g→(l≠pu∧l≠g)→Pu (upd H' l o) pu g:=fun {H' l o} hP' hn=>by
    obtain ⟨ns,x,y,h1,h2⟩:=hP'
    exact ⟨ns,x,y,by rw [yag (Ne.symm hn.1)];exact h1,by rw [yag (Ne.symm hn.2)];exact h2⟩
  have hnpn:np≤n:=hrow.le
  refine ⟨_,rfl,_,rfl,pp,_,_,Vn np,rfl,rfl,SqT.of (sac _ _ epp8),rfl,_,_,rfl,rfl,pu,g,np+1,rfl,hPc,by omega,by omega,fun nl Hd hnl hPd sxd=>?_⟩
  refine ⟨(nl:Int),rfl,by omega,by omega,?_⟩
  refine yaI (lo:=0) (n:=(nl:Int).toNat) (fun i σ H'=>Pu H' pu g∧yan pu g H8 H'∧(∃ps:List Nat,H' le=some (.lst (ps.map Vn))∧ps.length+i=n∧∀y∈ps,y<n)∧(∃qs:List Nat,H' lo=some (.lst (qs.map Vn))∧qs.length=i∧∀y∈qs,y<n)∧∃s12 s13 s14 s15 s16 s17 s18 s19 s20 s21 s22,σ=[some (.ref a),some (.ref pu),some (.int (0+(j:Int))),some (Vn way),some (Vn most),some (.ref tb),some (.ref wh),some (Vn n),some (.ref pp),some (.ref so),some (.ref le),some (.ref lo),s12,s13,s14,s15,s16,s17,s18,s19,s20,s21,s22]) ⟨hPd,(Same.x sac).trans sxd,⟨List.range n,sxd _ _ nle.1 nle.2 ele0,by simp,fun y hy=>List.mem_range.mp hy⟩,⟨[],sxd _ _ nlo.1 nlo.2 elo0,rfl,fun y hy=>nomatch hy⟩,_,_,_,_,_,_,_,_,_,_,_,rfl⟩ ?_ ?_
  · rintro i σ H5 hi ⟨hP5,sx5,⟨ps,ele,hpl,hps⟩,⟨qs,elo,hql,hqs⟩,t12,t13,t14,t15,t16,t17,t18,t19,t20,t21,t22,rfl⟩
    rw [Int.toNat_natCast] at hi
    refine ⟨_,rfl,.inl ⟨rfl,_,SqL.of elo⟩,_,rfl,.inl ⟨rfl,_,SqL.of ele⟩,_,rfl,_,rfl,le,_,rfl,.inl (SqL.of ele),pu,g,ps.length,by rw [List.length_map];rfl,hP5,by omega,by omega,fun v H6 hv hP6 sx6=>?_⟩
    have ele6:=sx6 _ _ nle.1 nle.2 ele
    have elo6:=sx6 _ _ nlo.1 nlo.2 elo
    have hpl1:ps.getD v 0<n:=zbi hps hv
    refine ⟨le,_,_,v,Vn (ps.getD v 0),rfl,rfl,ele6,by omega,by omega,by rw [List.length_map];exact (ycS (ydM hv)).1,zat hv,?_⟩
    generalize ps.getD v 0=pl at hpl1 ⊢
    have eer:(ps.map Vn).eraseIdx v=(ps.eraseIdx v).map Vn:=zcV ps v
    rw [eer]
    have hP7:Pu (upd H6 le (.lst ((ps.eraseIdx v).map Vn))) pu g:=puU hP6 nle
    have sx7:yan pu g H8 (upd H6 le (.lst ((ps.eraseIdx v).map Vn))):=sxU (sx5.trans sx6) fle
    have ele7:upd H6 le (.lst ((ps.eraseIdx v).map Vn)) le=some (.lst ((ps.eraseIdx v).map Vn)):=zab
    have elo7:upd H6 le (.lst ((ps.eraseIdx v).map Vn)) lo=some (.lst (qs.map Vn)):=by rw [yag n3];exact elo6
    generalize upd H6 le (.lst ((ps.eraseIdx v).map Vn))=H7 at hP7 sx7 ele7 elo7 ⊢
    refine ⟨lo,_,_,rfl,rfl,elo7,zam (by rw [List.length_map];omega),?_⟩
    rw [show qs.map Vn++[Vn pl]=(qs++[pl]).map Vn by rw [List.map_append];rfl]
    refine ⟨puU hP7 nlo,sxU sx7 flo,⟨ps.eraseIdx v,by rw [yag (Ne.symm n3)];exact ele7,?_,fun y hy=>hps y (List.mem_of_mem_eraseIdx hy)⟩,⟨qs++[pl],zab,by simp [hql],fun y hy=>?_⟩,_,_,_,_,_,_,_,_,_,_,_,rfl⟩
    · rw [List.length_eraseIdx_of_lt hv];omega
    · rcases List.mem_append.mp hy with h|h
      · exact hqs y h
      · rw [List.mem_singleton.mp h];exact hpl1
  rw [Int.toNat_natCast]
  rintro σ He ⟨hPe,sxe,_,⟨qs,elo,hql,hqs⟩,t12,t13,t14,t15,t16,t17,t18,t19,t20,t21,t22,rfl⟩
  have T8:=T8.x ap sxe
  have hW8:=hW8.x nwh nmk sxe
  have epp8:=sxe _ _ npp.1 npp.2 epp8
  have eso8:=sxe _ _ nso.1 nso.2 eso8
  refine ⟨_,rfl,_,rfl,_,rfl,_,rfl,pu,g,tb,fa,pa,la,wh,mk,p,m,t,b,few,root,n,marks,rfl,hPe,T8,ap,hW8,nwh,nmk,hf6,W.rq,hml,by omega,fun wo gs1 H9 ewo nwo egl1 hgs1 hP9 sx9=>?_⟩
  have T9:=T8.x ap sx9
  have hW9:=hW8.x nwh nmk sx9
  refine ⟨_,rfl,_,rfl,_,rfl,_,rfl,pu,g,tb,fa,pa,la,wh,mk,p,m,t,b,few,root,n,marks,rfl,hP9,T9,ap,hW9,nwh,nmk,hf6,W.rq,hml,by omega,fun ot gs2 H10 eot not egl2 hgs2 hP10 sx10=>?_⟩
  have T10:=T9.x ap sx10
  have hW10:=hW9.x nwh nmk sx10
  have epp10:=sx10 _ _ npp.1 npp.2 (sx9 _ _ npp.1 npp.2 epp8)
  have eso10:=sx10 _ _ nso.1 nso.2 (sx9 _ _ nso.1 nso.2 eso8)
  have ewo10:=sx10 _ _ nwo.1 nwo.2 ewo
  have hw1:∀y∈(List.range n).map (conv p m t gs1 (mkL p m t root marks)),y∈lets p m t few:=fun y hy=>by obtain ⟨i,_,rfl⟩:=List.mem_map.mp hy;exact ydH G hgs1 hlet i
  have hw2:∀y∈(List.range n).map (conv p m t gs2 (mkL p m t root marks)),y∈lets p m t few:=fun y hy=>by obtain ⟨i,_,rfl⟩:=List.mem_map.mp hy;exact ydH G hgs2 hlet i
  have hl1:((List.range n).map (conv p m t gs1 (mkL p m t root marks))).length=n:=by simp
  have hl2:((List.range n).map (conv p m t gs2 (mkL p m t root marks))).length=n:=by simp
  generalize (List.range n).map (conv p m t gs1 (mkL p m t root marks))=word at ewo ewo10 hw1 hl1
  generalize (List.range n).map (conv p m t gs2 (mkL p m t root marks))=other at eot hw2 hl2
  refine ⟨_,_,rfl,?_⟩
  dsimp only [zau]
  have elo10:=sx10 _ _ nlo.1 nlo.2 (sx9 _ _ nlo.1 nlo.2 elo)
  have cdv:CDv ((np:Int)-(((qs.map Vn).length:Nat):Int)) 2:=by rw [List.length_map];unfold CDv;omega
  refine ⟨_,rfl,pp,_,_,Vn np,rfl,rfl,SqT.of epp10,rfl,_,rfl,lo,_,rfl,.inl (SqL.of elo10),_,_,rfl,rfl,_,_,rfl,rfl,cdv,?_⟩
  refine ⟨_,rfl,lo,qs.map (fun x:Nat=>(x:Int)),rfl,SqL.of (by rw [mapI];exact elo10),by rw [List.length_map];omega,fun sl ns' hsl perm asc=>?_⟩
  obtain ⟨ls,els,hll,hls⟩:=yfs perm hqs
  rw [els]
  have u1:=zac hsl (.lst (ls.map Vn))
  refine ⟨sl,_,rfl,.inl ⟨SqL.of zab,fun tl htl=>?_⟩⟩
  have u2:=zac htl (.tup (ls.map Vn))
  refine ⟨_,_,rfl,?_⟩
  dsimp only [zau]
  have etl:upd (upd H10 sl (.lst (ls.map Vn))) tl (.tup (ls.map Vn)) tl=some (.tup (ls.map Vn)):=zab
  have ntl:=(hP10.same u1).lt htl
  have u12:=u1.trans u2
  have hP10:=hP10.same u12
  generalize upd (upd H10 sl (.lst (ls.map Vn))) tl (.tup (ls.map Vn))=H10b at u2 u12 etl hP10 ⊢
  have ehf:((np:Int)-(((qs.map Vn).length:Nat):Int))/2=(((np-nl)/2:Nat):Int):=by rw [List.length_map,hql];omega
  rw [ehf]
  generalize (np-nl)/2=hf
  have T10:=T10.same u12
  have hW10:=hW10.same u12
  have epp10:=u12 _ _ epp10
  have eso10:=u12 _ _ eso10
  have ewo10:=u12 _ _ ewo10
  have eot:=u12 _ _ eot
  have h2:=zfZ (few:=few) G
  have h64:(lets p m t few).length≤64:=by have:=zem p m t few;omega
  have hlt64:∀y∈lets p m t few,y<64:=fun y hy=>by have:=zbL y hy;omega
  refine ⟨_,rfl,_,rfl,_,rfl,_,rfl,_,rfl,_,rfl,_,_,rfl,rfl,?_⟩
  refine ⟨_,rfl,_,rfl,_,_,rfl,rfl,pu,g,n+1,rfl,hP10,by omega,by omega,fun v3 H11 hv3 hP11 sx11=>?_⟩
  refine ⟨szl 4,fun l4 hl4=>?_⟩
  obtain ⟨o4,eo4⟩:∃o4:Nat,atI [V.int 0,V.int (hf:Int),V.int ((hf:Int)+1),Vn v3] (way:Int)=some (Vn o4):=by
    have:way=0∨way=1∨way=2∨way=3:=by omega
    rcases this with rfl|rfl|rfl|rfl
    · exact ⟨0,rfl⟩
    · exact ⟨hf,rfl⟩
    · exact ⟨hf+1,rfl⟩
    · exact ⟨v3,rfl⟩
  have s12:=zac hl4 (.lst [V.int 0,V.int (hf:Int),V.int ((hf:Int)+1),Vn v3])
  refine ⟨_,rfl,l4,_,_,Vn o4,rfl,rfl,SqL.of zab,eo4,(n:Int),(o4:Int),rfl,?_⟩
  obtain ⟨mn,hmn,emn⟩:∃mn:Nat,mn≤n∧(if (o4:Int)<(n:Int) then (o4:Int) else (n:Int))=(mn:Int):=by
    by_cases c:(o4:Int)<(n:Int)
    · exact ⟨o4,by omega,by rw [if_pos c]⟩
    · exact ⟨n,Nat.le_refl _,by rw [if_neg c]⟩
  rw [emn]
  have sx12:=sx11.trans (Same.x s12)
  have hP12:=hP11.same s12
  generalize upd H11 l4 (.lst [V.int 0,V.int (hf:Int),V.int ((hf:Int)+1),Vn v3])=H12 at sx12 hP12 ⊢
  have T12:=T10.x ap sx12
  have hW12:=hW10.x nwh nmk sx12
  have epp12:=sx12 _ _ npp.1 npp.2 epp10
  have eso12:=sx12 _ _ nso.1 nso.2 eso10
  have ewo12:=sx12 _ _ nwo.1 nwo.2 ewo10
  have eot12:=sx12 _ _ not.1 not.2 eot
  have etl12:=sx12 _ _ ntl.1 ntl.2 etl
  refine ⟨pu,g,so,wo,n,mn,lets p m t few,word,rfl,hP12,eso12,nso,ewo12,hl1,by omega,hmn,h2,h64,hlt64,hw1,fun r1 ga0 sp1 got0 H13 er1 ega0 hgl0 hgs0 nga0 hP13 sx13=>?_⟩
  refine ⟨r1,_,_,V.ref ga0,rfl,rfl,SqT.of er1,yaw (j:=0) rfl,?_⟩
  dsimp only [zau]
  have T13:=T12.x ap sx13
  have hW13:=hW12.x nwh nmk sx13
  have epp13:=sx13 _ _ npp.1 npp.2 epp12
  have eso13:=sx13 _ _ nso.1 nso.2 eso12
  have ewo13:=sx13 _ _ nwo.1 nwo.2 ewo12
  have eot13:=sx13 _ _ not.1 not.2 eot12
  have etl13:=sx13 _ _ ntl.1 ntl.2 etl12
  refine ⟨_,rfl,ga0,_,rfl,.inr (SqT.of ega0),fun gl hgl=>?_⟩
  dsimp only [zau]
  have v1:=zac hgl (.lst (got0.map Vn))
  have ngl:=hP13.lt hgl
  have egl0:upd H13 gl (.lst (got0.map Vn)) gl=some (.lst (got0.map Vn)):=zab
  have hPv:=hP13.same v1
  have sxv:yan pu g H13 _:=Same.x v1
  generalize upd H13 gl (.lst (got0.map Vn))=Hv at egl0 hPv sxv ⊢
  have sxV:∀ {H':Hp} {o:HO},yan pu g H13 H'→yan pu g H13 (upd H' gl o):=fun {H' o} sx b u h1 h2 e=>by rw [yag (zaf e hgl)];exact sx b u h1 h2 e
  refine ⟨_,rfl,tl,rfl,⟨_,SqT.of (sxv _ _ ntl.1 ntl.2 etl13)⟩,?_⟩
  refine zbb (ybL (xs:=ls.map Vn)) (fun i σ H'=>Pu H' pu g∧yan pu g H13 H'∧(∃gs:List Nat,H' gl=some (.lst (gs.map Vn))∧gs.length=n∧∀y∈gs,y∈lets p m t few)∧∃s17 s18 s19 s20 s21 s22,σ=[some (.ref a),some (.ref pu),some (.int (0+(j:Int))),some (Vn way),some (Vn most),some (.ref tb),some (.ref wh),some (Vn n),some (.ref pp),some (.ref so),some (.ref le),some (.ref tl),t12,some (.ref wo),some (.ref ot),some (Vn hf),some (.ref gl),s17,s18,s19,s20,s21,s22]) ⟨hPv,sxv,⟨got0,egl0,hgl0,hgs0⟩,_,_,_,_,_,_,rfl⟩ (fun i σ H' _ h=>SqT.of (h.2.1 _ _ ntl.1 ntl.2 etl13)) ?_ ?_
  · rintro i x σ H5 H5' hi ⟨hP5,sx5,⟨gs,ego,hgl5,hgs5⟩,s17,s18,s19,s20,s21,s22,rfl⟩ ⟨rfl,ez⟩
    rw [List.length_map] at hi
    rw [zat hi] at ez
    cases ez
    have hpl:ls.getD i 0<n:=zbi hls hi
    dsimp only [zau]
    generalize ls.getD i 0=pl at hpl ⊢
    have eso5:=sx5 _ _ nso.1 nso.2 eso13
    refine ⟨_,rfl,_,rfl,_,rfl,so,_,rfl,.inl (SqL.of eso5),pu,g,(lets p m t few).length,by rw [List.length_map];rfl,hP5,by omega,by omega,fun v H6 hv hP6 sx6=>?_⟩
    have ego6:=sx6 _ _ ngl.1 ngl.2 ego
    refine ⟨so,_,_,Vn ((lets p m t few).getD v 0),rfl,rfl,SqL.of (sx6 _ _ nso.1 nso.2 eso5),yaw (zat hv),?_⟩
    refine ⟨_,rfl,_,rfl,gl,_,_,pl,rfl,rfl,ego6,by rw [List.length_map];exact ydM (by omega),?_⟩
    rw [zd4]
    have hlj:(lets p m t few).getD v 0∈lets p m t few:=by rw [show (lets p m t few).getD v 0=(lets p m t few)[v] by simp [List.getD,hv]];exact List.getElem_mem hv
    refine ⟨puU hP6 ngl,sxV (sx5.trans sx6),⟨gs.set pl ((lets p m t few).getD v 0),zab,by rw [List.length_set];exact hgl5,fun y hy=>?_⟩,_,_,_,_,_,_,rfl⟩
    rcases List.mem_or_eq_of_mem_set hy with h|h
    · exact hgs5 y h
    · rw [h];exact hlj
  rintro σ Hf ⟨hPf,sxf,⟨got,egf,hgl,hgs3⟩,z17,z18,z19,z20,z21,z22,rfl⟩
  refine ⟨_,rfl,gl,_,rfl,.inl ⟨SqL.of egf,fun ga hga=>?_⟩⟩
  dsimp only [zau]
  have w1:=zac hga (.tup (got.map Vn))
  have nga:=hPf.lt hga
  have ega:upd Hf ga (.tup (got.map Vn)) ga=some (.tup (got.map Vn)):=zab
  have sxg:=sxf.trans (Same.x w1)
  have hP13:=hPf.same w1
  have T13:=T13.x ap sxg
  have hW13:=hW13.x nwh nmk sxg
  have epp13:=sxg _ _ npp.1 npp.2 epp13
  have eso13:=sxg _ _ nso.1 nso.2 eso13
  have ewo13:=sxg _ _ nwo.1 nwo.2 ewo13
  have eot13:=sxg _ _ not.1 not.2 eot13
  have etl13:=sxg _ _ ntl.1 ntl.2 etl13
  generalize upd Hf ga (.tup (got.map Vn))=H13 at ega hP13 T13 hW13 epp13 eso13 ewo13 eot13 etl13 ⊢
  refine ⟨_,rfl,_,rfl,_,rfl,szl 3,fun th hth=>?_⟩
  have s14:=zac hth (.lst [V.ref wo,V.ref ga,V.ref ot])
  have eth:upd H13 th (.lst [V.ref wo,V.ref ga,V.ref ot]) th=some (.lst [V.ref wo,V.ref ga,V.ref ot]):=zab
  have nth:=hP13.lt hth
  have T14:=T13.same s14
  have hW14:=hW13.same s14
  have epp14:=s14 _ _ epp13
  have etl14:=s14 _ _ etl13
  have eso14:=s14 _ _ eso13
  have ewo14:=s14 _ _ ewo13
  have eot14:=s14 _ _ eot13
  have ega14:=s14 _ _ ega
  have hP14:=hP13.same s14
  dsimp only [zau]
  generalize upd H13 th (.lst [V.ref wo,V.ref ga,V.ref ot])=H14 at s14 eth T14 hW14 epp14 etl14 eso14 ewo14 eot14 ega14 hP14 ⊢
  let WdAt:Hp→V→Prop:=fun H' x=>∃(o:Addr) (row:List Nat),x = .ref o∧H' o=some (.tup (row.map Vn))∧row.length=n∧(∀y∈row,y∈lets p m t few)∧o≠pu∧o≠g
  have wdx:∀ {H' H'':Hp} {x:V},yan pu g H' H''→WdAt H' x→WdAt H'' x:=fun {H' H'' x} sx ⟨o,row,e1,e2,e3,e4,e5,e6⟩=>⟨o,row,e1,sx _ _ e5 e6 e2,e3,e4,e5,e6⟩
  have wd3:∀x∈[V.ref wo,V.ref ga,V.ref ot],WdAt H14 x:=fun x hx=>by
    simp only [List.mem_cons,List.not_mem_nil,or_false] at hx
    rcases hx with rfl|rfl|rfl
    · exact ⟨wo,word,rfl,ewo14,hl1,hw1,nwo.1,nwo.2⟩
    · exact ⟨ga,got,rfl,ega14,hgl,hgs3,nga.1,nga.2⟩
    · exact ⟨ot,other,rfl,eot14,hl2,hw2,not.1,not.2⟩
  refine ⟨_,rfl,_,rfl,th,rfl,⟨_,SqL.of eth⟩,?_⟩
  refine zar (yaR (xs:=[V.ref wo,V.ref ga,V.ref ot])) (fun i acc H'=>Pu H' pu g∧yan pu g H14 H'∧acc.length=i∧∀x∈acc,WdAt H' x) ⟨hP14,yan.refl,rfl,fun x hx=>nomatch hx⟩ (fun i acc H' _ h=>SqL.of (h.2.1 _ _ nth.1 nth.2 eth)) ?_ ?_ ?_
  · rintro i acc H' hi ⟨_,_,e,_⟩
    rw [e];exact zam (by have:i<3:=hi;omega)
  · rintro i acc e H15 H15' hi ⟨hP15,sx15,hl15,ho15⟩ ⟨rfl,ez⟩
    obtain ⟨o,row,rfl,e2,e3,e4,e5,e6⟩:=wdx sx15 (wd3 e (List.mem_of_getElem? ez))
    refine ⟨_,rfl,_,rfl,_,rfl,pu,g,so,o,n,1,lets p m t few,row,rfl,hP15,sx15 _ _ nso.1 nso.2 eso14,nso,e2,e3,by omega,hn1,h2,h64,hlt64,e4,fun r2 ga2 sp2 got2 H16 er2 ega2 hgl2 hgs4 nga2 hP16 sx16=>?_⟩
    refine ⟨r2,_,_,V.ref ga2,rfl,rfl,SqT.of er2,yaw (j:=0) rfl,?_⟩
    refine ⟨hP16,sx15.trans sx16,by simp [hl15],fun x hx=>?_⟩
    rcases List.mem_append.mp hx with h|h
    · exact wdx sx16 (ho15 x h)
    · rw [List.mem_singleton.mp h];exact ⟨ga2,got2,rfl,ega2,hgl2,hgs4,nga2.1,nga2.2⟩
  rintro acc H15 ⟨hP15,sx15,hl15,ho15⟩ D hD
  have hl15':acc.length=3:=hl15
  have s16:=zac hD (.lst acc)
  refine ⟨th,D,_,_,rfl,rfl,s16 _ _ (sx15 _ _ nth.1 nth.2 eth),zab,szl _ (by rw [hl15'];show 3+3≤100000;decide),fun th2 hth2=>?_⟩
  have s17:=zac hth2 (.lst ([V.ref wo,V.ref ga,V.ref ot]++acc))
  have s167:=s16.trans s17
  have sx17:=sx15.trans (Same.x s167)
  have hz17:=hP15.same s167
  have eth2:upd (upd H15 D (.lst acc)) th2 (.lst ([V.ref wo,V.ref ga,V.ref ot]++acc)) th2=some (.lst ([V.ref wo,V.ref ga,V.ref ot]++acc)):=zab
  have wd6:∀x∈[V.ref wo,V.ref ga,V.ref ot]++acc,WdAt (upd (upd H15 D (.lst acc)) th2 (.lst ([V.ref wo,V.ref ga,V.ref ot]++acc))) x:=fun x hx=>(List.mem_append.mp hx).elim (fun h=>wdx sx17 (wd3 x h)) (fun h=>wdx (Same.x s167) (ho15 x h))
  dsimp only [zau]
  generalize upd (upd H15 D (.lst acc)) th2 (.lst ([V.ref wo,V.ref ga,V.ref ot]++acc))=H17 at s17 s167 sx17 hz17 eth2 wd6 ⊢
  generalize [V.ref wo,V.ref ga,V.ref ot]++acc=things at eth2 wd6 ⊢
  have T17:=T14.x ap sx17
  have hW17:=hW14.x nwh nmk sx17
  have epp17:=sx17 _ _ npp.1 npp.2 epp14
  have etl17:=sx17 _ _ ntl.1 ntl.2 etl14
  have ewo17:=sx17 _ _ nwo.1 nwo.2 ewo14
  have ega17:=sx17 _ _ nga.1 nga.2 ega14
  have rowlt:∀ {row:List Nat},(∀y∈row,y∈lets p m t few)→∀y∈row,y<p^m:=fun h y hy=>zbL y (h y hy)
  refine ⟨_,rfl,th2,rfl,⟨_,SqL.of eth2⟩,?_⟩
  refine zbb (yaR (xs:=things)) (fun i σ H'=>Same H17 H'∧∃s15 s16 s17 s18,σ=[some (.ref a),some (.ref pu),some (.int (0+(j:Int))),some (Vn way),some (Vn most),some (.ref tb),some (.ref wh),some (Vn n),some (.ref pp),some (.ref so),some (.ref le),some (.ref tl),t12,some (.ref wo),some (.ref ot),some (Vn hf),some (.ref ga),z17,some (.ref th2),s15,s16,s17,s18]) ⟨Same.refl _,_,_,_,_,rfl⟩ (fun i σ H' _ h=>SqL.of (h.1 _ _ eth2)) ?_ ?_
  · rintro i x σ H18 H18' hi ⟨s18,q15,q16,q17,q18,rfl⟩ ⟨rfl,ez⟩
    obtain ⟨o,row,rfl,e2,e3,e4,e5,e6⟩:=wd6 x (List.mem_of_getElem? ez)
    dsimp only [zau]
    refine ⟨2,rfl,by decide,by decide,?_⟩
    refine yaI (lo:=0) (n:=2) (fun i σ H'=>Same H17 H'∧∃s16 s17 s18,σ=[some (.ref a),some (.ref pu),some (.int (0+(j:Int))),some (Vn way),some (Vn most),some (.ref tb),some (.ref wh),some (Vn n),some (.ref pp),some (.ref so),some (.ref le),some (.ref tl),t12,some (.ref wo),some (.ref ot),some (Vn hf),some (.ref ga),z17,some (.ref th2),some (.ref o),s16,s17,s18]) ⟨s18,_,_,_,rfl⟩ ?_ ?_
    · rintro k σ H19 hk ⟨s19,r16,r17,r18,rfl⟩
      refine ⟨_,rfl,_,rfl,_,rfl,_,rfl,_,rfl,wh,fa,mk,pp,ga,tl,p,m,t,few,root,n,f,s,np,marks,got,ls,.ref o,rfl,hW17.same s19,SqT.of (T17.same s19).f,G,W,by omega,SqT.of (s19 _ _ epp17),SqT.of (s19 _ _ ega17),SqT.of (s19 _ _ etl17),hgl,.inr ⟨o,row,rfl,SqT.of (s19 _ _ e2),e3,e4,fun H20 s20=>?_⟩⟩
      have s1920:=s19.trans s20
      dsimp only [zau]
      refine ⟨_,rfl,_,rfl,_,rfl,_,rfl,_,rfl,_,rfl,tb,fa,pa,la,wh,mk,pp,ga,tl,o,p,m,t,b,few,root,n,f,s,np,marks,got,row,ls,rfl,T17.same s1920,hW17.same s1920,W.rq,by omega,by omega,SqT.of (s1920 _ _ epp17),SqT.of (s1920 _ _ ega17),hgl,SqT.of (s1920 _ _ etl17),SqT.of (s1920 _ _ e2),e3,rowlt e4,fun H21 s21=>?_⟩
      dsimp only [zau]
      refine ⟨_,rfl,.bl (shB p m t root np marks row got ls),"bool",rfl,.inl rfl,_,rfl,?_⟩
      refine ite2 (fun c=>absurd c (by decide)) (fun _=>?_)
      refine ⟨_,rfl,_,rfl,rfl,false,by rw [decide_eq_true rfl];rfl,?_⟩
      refine ite2 (fun c=>absurd c (by decide)) (fun _=>?_)
      exact ⟨s1920.trans s21,_,_,_,rfl⟩
    · rintro σ H19 ⟨s19,r16,r17,r18,rfl⟩
      exact ⟨s19,_,_,_,_,rfl⟩
  rintro σ H18 ⟨s18,q15,q16,q17,q18,rfl⟩
  have hP18:=hz17.same s18
  refine ⟨_,rfl,_,rfl,_,rfl,pu,g,tb,fa,pa,la,wo,p,m,t,b,n,word,rfl,hP18,T17.same s18,ap,s18 _ _ ewo17,nwo,hl1,hn1,by omega,rowlt hw1,fun r xs H19 er hxl hodd nr hP19 sx19=>?_⟩
  have sx1719:=(Same.x s18).trans sx19
  have T19:=T17.x ap sx1719
  have hW19:=hW17.x nwh nmk sx1719
  have epp19:=sx1719 _ _ npp.1 npp.2 epp17
  have etl19:=sx1719 _ _ ntl.1 ntl.2 etl17
  have ega19:=sx1719 _ _ nga.1 nga.2 ega17
  refine ⟨r,rfl,⟨_,SqL.of er⟩,?_⟩
  refine zbb (yaR (xs:=xs)) (fun i σ H'=>Same H19 H'∧∃s15 s16 s17 s18,σ=[some (.ref a),some (.ref pu),some (.int (0+(j:Int))),some (Vn way),some (Vn most),some (.ref tb),some (.ref wh),some (Vn n),some (.ref pp),some (.ref so),some (.ref le),some (.ref tl),t12,some (.ref wo),some (.ref ot),some (Vn hf),some (.ref ga),z17,some (.ref th2),s15,s16,s17,s18]) ⟨Same.refl _,_,_,_,_,rfl⟩ (fun i σ H' _ h=>SqL.of (h.1 _ _ er)) ?_ ?_
  · rintro i x σ H20 H20' hi ⟨s20,p15,p16,p17,p18,rfl⟩ ⟨rfl,ez⟩
    dsimp only [zau]
    refine ⟨_,rfl,_,rfl,_,rfl,_,rfl,_,rfl,wh,fa,mk,pp,ga,tl,p,m,t,few,root,n,f,s,np,marks,got,ls,x,rfl,hW19.same s20,SqT.of (T19.same s20).f,G,W,by omega,SqT.of (s20 _ _ epp19),SqT.of (s20 _ _ ega19),SqT.of (s20 _ _ etl19),hgl,.inl ⟨(hodd x (List.mem_of_getElem? ez)).same s20,fun H21 s21=>?_⟩⟩
    refine ⟨false,false,rfl,rfl,false,rfl,?_⟩
    refine ite2 (fun c=>absurd c (by decide)) (fun _=>?_)
    exact ⟨s20.trans s21,_,_,_,_,rfl⟩
  · rintro σ H20 ⟨s20,p15,p16,p17,p18,rfl⟩
    exact ⟨hP19.same s20,_,_,_,_,_,_,_,_,_,_,_,_,_,_,_,_,_,_,_,_,_,rfl⟩
end
end My
end
section
-- text: Z46
namespace My
open PySem L2 Dg
theorem yf6 {K:PySem.W.Frag} {H:Hp} {a:Addr} {ns:List Int} {E:XK} (hl:ns.length≤63) (hS:SqL K H a (ns.map V.int)):zdR K [.ref a] H (fun v _=>v = .bl true) E:=⟨a,ns,rfl,hS,fun _=>rfl⟩
theorem all_mk {l:PySem.W.OpenLaw} {w:World} {K:PySem.W.Frag} {h:Heap} {mg:Str→Option Value} {fa:Addr} (X:K.In h) (G:h.Ns mainGlobals mg) (hfa:mg "law"=some (.ref fa))
    {f1:Addr} {od1 an1:Option Addr} {sl1:Array (Option Value)} {oc1 kV1 dc1 pm1 cd1 ct1:Value} {f2:Addr} {od2 an2:Option Addr} {sl2:Array (Option Value)} {oc2 kV2 dc2 pm2 cd2 ct2:Value} {f3:Addr} {od3 an3:Option Addr} {sl3:Array (Option Value)} {oc3 kV3 dc3 pm3 cd3 ct3:Value} {f4:Addr} {od4 an4:Option Addr} {sl4:Array (Option Value)} {oc4 kV4 dc4 pm4 cd4 ct4:Value} {f5:Addr} {od5 an5:Option Addr} {sl5:Array (Option Value)} {oc5 kV5 dc5 pm5 cd5 ct5:Value} {f6:Addr} {od6 an6:Option Addr} {sl6:Array (Option Value)} {oc6 kV6 dc6 pm6 cd6 ct6:Value} {f7:Addr} {od7 an7:Option Addr} {sl7:Array (Option Value)} {oc7 kV7 dc7 pm7 cd7 ct7:Value} {f8:Addr} {od8 an8:Option Addr} {sl8:Array (Option Value)} {oc8 kV8 dc8 pm8 cd8 ct8:Value} {f9:Addr} {od9 an9:Option Addr} {sl9:Array (Option Value)} {oc9 kV9 dc9 pm9 cd9 ct9:Value} {f10:Addr} {od10 an10:Option Addr} {sl10:Array (Option Value)} {oc10 kV10 dc10 pm10 cd10 ct10:Value} {f11:Addr} {od11 an11:Option Addr} {sl11:Array (Option Value)} {oc11 kV11 dc11 pm11 cd11 ct11:Value} {f12:Addr} {od12 an12:Option Addr} {sl12:Array (Option Value)} {oc12 kV12 dc12 pm12 cd12 ct12:Value} {f13:Addr} {od13 an13:Option Addr} {sl13:Array (Option Value)} {oc13 kV13 dc13 pm13 cd13 ct13:Value} {f14:Addr} {od14 an14:Option Addr} {sl14:Array (Option Value)} {oc14 kV14 dc14 pm14 cd14 ct14:Value} {f15:Addr} {od15 an15:Option Addr} {sl15:Array (Option Value)} {oc15 kV15 dc15 pm15 cd15 ct15:Value} {f16:Addr} {od16 an16:Option Addr} {sl16:Array (Option Value)} {oc16 kV16 dc16 pm16 cd16 ct16:Value} {f17:Addr} {od17 an17:Option Addr} {sl17:Array (Option Value)} {oc17 kV17 dc17 pm17 cd17 ct17:Value} {f18:Addr} {od18 an18:Option Addr} {sl18:Array (Option Value)} {oc18 kV18 dc18 pm18 cd18 ct18:Value} {f19:Addr} {od19 an19:Option Addr} {sl19:Array (Option Value)} {oc19 kV19 dc19 pm19 cd19 ct19:Value} {f20:Addr} {od20 an20:Option Addr} {sl20:Array (Option Value)} {oc20 kV20 dc20 pm20 cd20 ct20:Value} {f21:Addr} {od21 an21:Option Addr} {sl21:Array (Option Value)} {oc21 kV21 dc21 pm21 cd21 ct21:Value} {f22:Addr} {od22 an22:Option Addr} {sl22:Array (Option Value)} {oc22 kV22 dc22 pm22 cd22 ct22:Value} {f23:Addr} {od23 an23:Option Addr} {sl23:Array (Option Value)} {oc23 kV23 dc23 pm23 cd23 ct23:Value} {f24:Addr} {od24 an24:Option Addr} {sl24:Array (Option Value)} {oc24 kV24 dc24 pm24 cd24 ct24:Value} {f25:Addr} {od25 an25:Option Addr} {sl25:Array (Option Value)} {oc25 kV25 dc25 pm25 cd25 ct25:Value} {f26:Addr} {od26 an26:Option Addr} {sl26:Array (Option Value)} {oc26 kV26 dc26 pm26 cd26 ct26:Value} {f27:Addr} {od27 an27:Option Addr} {sl27:Array (Option Value)} {oc27 kV27 dc27 pm27 cd27 ct27:Value} {f28:Addr} {od28 an28:Option Addr} {sl28:Array (Option Value)} {oc28 kV28 dc28 pm28 cd28 ct28:Value} {f29:Addr} {od29 an29:Option Addr} {sl29:Array (Option Value)} {oc29 kV29 dc29 pm29 cd29 ct29:Value} {f30:Addr} {od30 an30:Option Addr} {sl30:Array (Option Value)} {oc30 kV30 dc30 pm30 cd30 ct30:Value} {f31:Addr} {od31 an31:Option Addr} {sl31:Array (Option Value)} {oc31 kV31 dc31 pm31 cd31 ct31:Value} {f32:Addr} {od32 an32:Option Addr} {sl32:Array (Option Value)} {oc32 kV32 dc32 pm32 cd32 ct32:Value} {f33:Addr} {od33 an33:Option Addr} {sl33:Array (Option Value)} {oc33 kV33 dc33 pm33 cd33 ct33:Value} {f34:Addr} {od34 an34:Option Addr} {sl34:Array (Option Value)} {oc34 kV34 dc34 pm34 cd34 ct34:Value} {f35:Addr} {od35 an35:Option Addr} {sl35:Array (Option Value)} {oc35 kV35 dc35 pm35 cd35 ct35:Value} {f36:Addr} {od36 an36:Option Addr} {sl36:Array (Option Value)} {oc36 kV36 dc36 pm36 cd36 ct36:Value} {f37:Addr} {od37 an37:Option Addr} {sl37:Array (Option Value)} {oc37 kV37 dc37 pm37 cd37 ct37:Value} {f38:Addr} {od38 an38:Option Addr} {sl38:Array (Option Value)} {oc38 kV38 dc38 pm38 cd38 ct38:Value} {f39:Addr} {od39 an39:Option Addr} {sl39:Array (Option Value)} {oc39 kV39 dc39 pm39 cd39 ct39:Value} {f40:Addr} {od40 an40:Option Addr} {sl40:Array (Option Value)} {oc40 kV40 dc40 pm40 cd40 ct40:Value} {f41:Addr} {od41 an41:Option Addr} {sl41:Array (Option Value)} {oc41 kV41 dc41 pm41 cd41 ct41:Value} {f42:Addr} {od42 an42:Option Addr} {sl42:Array (Option Value)} {oc42 kV42 dc42 pm42 cd42 ct42:Value} {f43:Addr} {od43 an43:Option Addr} {sl43:Array (Option Value)} {oc43 kV43 dc43 pm43 cd43 ct43:Value} {f44:Addr} {od44 an44:Option Addr} {sl44:Array (Option Value)} {oc44 kV44 dc44 pm44 cd44 ct44:Value} {f45:Addr} {od45 an45:Option Addr} {sl45:Array (Option Value)} {oc45 kV45 dc45 pm45 cd45 ct45:Value} {f46:Addr} {od46 an46:Option Addr} {sl46:Array (Option Value)} {oc46 kV46 dc46 pm46 cd46 ct46:Value} {f47:Addr} {od47 an47:Option Addr} {sl47:Array (Option Value)} {oc47 kV47 dc47 pm47 cd47 ct47:Value}
    (a1:PySem.W.nsIn K mainGlobals "is_whole"=some (some (.ref f1))) (l1:K.lookup f1=some ⟨oc1,od1,.func (PySem.W.fnOf "is_whole" "is_whole" (zaj zbm) (yai zbm) (zad zbm) .none kV1 dc1 pm1 an1 cd1 ct1),sl1⟩) (c1:PySem.W.codeIn K cd1 "is_whole"=true) (k1:PySem.W.keepIn K (.ref f1)=true)
    (a2:PySem.W.nsIn K mainGlobals "number_power"=some (some (.ref f2))) (l2:K.lookup f2=some ⟨oc2,od2,.func (PySem.W.fnOf "number_power" "number_power" (zaj yaK) (yai yaK) (zad yaK) .none kV2 dc2 pm2 an2 cd2 ct2),sl2⟩) (c2:PySem.W.codeIn K cd2 "number_power"=true) (k2:PySem.W.keepIn K (.ref f2)=true)
    (a3:PySem.W.nsIn K mainGlobals "many_things"=some (some (.ref f3))) (l3:K.lookup f3=some ⟨oc3,od3,.func (PySem.W.fnOf "many_things" "many_things" (zaj zaX) (yai zaX) (zad zaX) .none kV3 dc3 pm3 an3 cd3 ct3),sl3⟩) (c3:PySem.W.codeIn K cd3 "many_things"=true) (k3:PySem.W.keepIn K (.ref f3)=true)
    (a4:PySem.W.nsIn K mainGlobals "plus"=some (some (.ref f4))) (l4:K.lookup f4=some ⟨oc4,od4,.func (PySem.W.fnOf "plus" "plus" (zaj yc4) (yai yc4) (zad yc4) .none kV4 dc4 pm4 an4 cd4 ct4),sl4⟩) (c4:PySem.W.codeIn K cd4 "plus"=true) (k4:PySem.W.keepIn K (.ref f4)=true)
    (a5:PySem.W.nsIn K mainGlobals "digit_times"=some (some (.ref f5))) (l5:K.lookup f5=some ⟨oc5,od5,.func (PySem.W.fnOf "digit_times" "digit_times" (zaj zaV) (yai zaV) (zad zaV) .none kV5 dc5 pm5 an5 cd5 ct5),sl5⟩) (c5:PySem.W.codeIn K cd5 "digit_times"=true) (k5:PySem.W.keepIn K (.ref f5)=true)
    (a6:PySem.W.nsIn K mainGlobals "lifted"=some (some (.ref f6))) (l6:K.lookup f6=some ⟨oc6,od6,.func (PySem.W.fnOf "lifted" "lifted" (zaj yb1) (yai yb1) (zad yb1) .none kV6 dc6 pm6 an6 cd6 ct6),sl6⟩) (c6:PySem.W.codeIn K cd6 "lifted"=true) (k6:PySem.W.keepIn K (.ref f6)=true)
    (a7:PySem.W.nsIn K mainGlobals "times"=some (some (.ref f7))) (l7:K.lookup f7=some ⟨oc7,od7,.func (PySem.W.fnOf "times" "times" (zaj ycf) (yai ycf) (zad ycf) .none kV7 dc7 pm7 an7 cd7 ct7),sl7⟩) (c7:PySem.W.codeIn K cd7 "times"=true) (k7:PySem.W.keepIn K (.ref f7)=true)
    (a8:PySem.W.nsIn K mainGlobals "times_itself"=some (some (.ref f8))) (l8:K.lookup f8=some ⟨oc8,od8,.func (PySem.W.fnOf "times_itself" "times_itself" (zaj zaJ) (yai zaJ) (zad zaJ) .none kV8 dc8 pm8 an8 cd8 ct8),sl8⟩) (c8:PySem.W.codeIn K cd8 "times_itself"=true) (k8:PySem.W.keepIn K (.ref f8)=true)
    (a9:PySem.W.nsIn K mainGlobals "power"=some (some (.ref f9))) (l9:K.lookup f9=some ⟨oc9,od9,.func (PySem.W.fnOf "power" "power" (zaj zci) (yai zci) (zad zci) .none kV9 dc9 pm9 an9 cd9 ct9),sl9⟩) (c9:PySem.W.codeIn K cd9 "power"=true) (k9:PySem.W.keepIn K (.ref f9)=true)
    (a10:PySem.W.nsIn K mainGlobals "round_of"=some (some (.ref f10))) (l10:K.lookup f10=some ⟨oc10,od10,.func (PySem.W.fnOf "round_of" "round_of" (zaj ybm) (yai ybm) (zad ybm) .none kV10 dc10 pm10 an10 cd10 ct10),sl10⟩) (c10:PySem.W.codeIn K cd10 "round_of"=true) (k10:PySem.W.keepIn K (.ref f10)=true)
    (a11:PySem.W.nsIn K mainGlobals "letters"=some (some (.ref f11))) (l11:K.lookup f11=some ⟨oc11,od11,.func (PySem.W.fnOf "letters" "letters" (zaj ybo) (yai ybo) (zad ybo) .none kV11 dc11 pm11 an11 cd11 ct11),sl11⟩) (c11:PySem.W.codeIn K cd11 "letters"=true) (k11:PySem.W.keepIn K (.ref f11)=true)
    (a12:PySem.W.nsIn K mainGlobals "value"=some (some (.ref f12))) (l12:K.lookup f12=some ⟨oc12,od12,.func (PySem.W.fnOf "value" "value" (zaj yck) (yai yck) (zad yck) .none kV12 dc12 pm12 an12 cd12 ct12),sl12⟩) (c12:PySem.W.codeIn K cd12 "value"=true) (k12:PySem.W.keepIn K (.ref f12)=true)
    (a13:PySem.W.nsIn K mainGlobals "length"=some (some (.ref f13))) (l13:K.lookup f13=some ⟨oc13,od13,.func (PySem.W.fnOf "length" "length" (zaj yb4) (yai yb4) (zad yb4) .none kV13 dc13 pm13 an13 cd13 ct13),sl13⟩) (c13:PySem.W.codeIn K cd13 "length"=true) (k13:PySem.W.keepIn K (.ref f13)=true)
    (a14:PySem.W.nsIn K mainGlobals "is_letters"=some (some (.ref f14))) (l14:K.lookup f14=some ⟨oc14,od14,.func (PySem.W.fnOf "is_letters" "is_letters" (zaj zaS) (yai zaS) (zad zaS) .none kV14 dc14 pm14 an14 cd14 ct14),sl14⟩) (c14:PySem.W.codeIn K cd14 "is_letters"=true) (k14:PySem.W.keepIn K (.ref f14)=true)
    (a15:PySem.W.nsIn K mainGlobals "is_word"=some (some (.ref f15))) (l15:K.lookup f15=some ⟨oc15,od15,.func (PySem.W.fnOf "is_word" "is_word" (zaj ybE) (yai ybE) (zad ybE) .none kV15 dc15 pm15 an15 cd15 ct15),sl15⟩) (c15:PySem.W.codeIn K cd15 "is_word"=true) (k15:PySem.W.keepIn K (.ref f15)=true)
    (a16:PySem.W.nsIn K mainGlobals "unlike"=some (some (.ref f16))) (l16:K.lookup f16=some ⟨oc16,od16,.func (PySem.W.fnOf "unlike" "unlike" (zaj ybJ) (yai ybJ) (zad ybJ) .none kV16 dc16 pm16 an16 cd16 ct16),sl16⟩) (c16:PySem.W.codeIn K cd16 "unlike"=true) (k16:PySem.W.keepIn K (.ref f16)=true)
    (a17:PySem.W.nsIn K mainGlobals "shows_lost"=some (some (.ref f17))) (l17:K.lookup f17=some ⟨oc17,od17,.func (PySem.W.fnOf "shows_lost" "shows_lost" (zaj za0) (yai za0) (zad za0) .none kV17 dc17 pm17 an17 cd17 ct17),sl17⟩) (c17:PySem.W.codeIn K cd17 "shows_lost"=true) (k17:PySem.W.keepIn K (.ref f17)=true)
    (a18:PySem.W.nsIn K mainGlobals "_law_purse"=some (some (.ref f18))) (l18:K.lookup f18=some ⟨oc18,od18,.func (PySem.W.fnOf "_law_purse" "_law_purse" (zaj yaZ) (yai yaZ) (zad yaZ) .none kV18 dc18 pm18 an18 cd18 ct18),sl18⟩) (c18:PySem.W.codeIn K cd18 "_law_purse"=true) (k18:PySem.W.keepIn K (.ref f18)=true)
    (a19:PySem.W.nsIn K mainGlobals "_law_pick"=some (some (.ref f19))) (l19:K.lookup f19=some ⟨oc19,od19,.func (PySem.W.fnOf "_law_pick" "_law_pick" (zaj ya9) (yai ya9) (zad ya9) .none kV19 dc19 pm19 an19 cd19 ct19),sl19⟩) (c19:PySem.W.codeIn K cd19 "_law_pick"=true) (k19:PySem.W.keepIn K (.ref f19)=true)
    (a20:PySem.W.nsIn K mainGlobals "_law_raised"=some (some (.ref f20))) (l20:K.lookup f20=some ⟨oc20,od20,.func (PySem.W.fnOf "_law_raised" "_law_raised" (zaj zaU) (yai zaU) (zad zaU) .none kV20 dc20 pm20 an20 cd20 ct20),sl20⟩) (c20:PySem.W.codeIn K cd20 "_law_raised"=true) (k20:PySem.W.keepIn K (.ref f20)=true)
    (a21:PySem.W.nsIn K mainGlobals "_law_digits"=some (some (.ref f21))) (l21:K.lookup f21=some ⟨oc21,od21,.func (PySem.W.fnOf "_law_digits" "_law_digits" (zaj yaV) (yai yaV) (zad yaV) .none kV21 dc21 pm21 an21 cd21 ct21),sl21⟩) (c21:PySem.W.codeIn K cd21 "_law_digits"=true) (k21:PySem.W.keepIn K (.ref f21)=true)
    (a22:PySem.W.nsIn K mainGlobals "_law_number"=some (some (.ref f22))) (l22:K.lookup f22=some ⟨oc22,od22,.func (PySem.W.fnOf "_law_number" "_law_number" (zaj zaW) (yai zaW) (zad zaW) .none kV22 dc22 pm22 an22 cd22 ct22),sl22⟩) (c22:PySem.W.codeIn K cd22 "_law_number"=true) (k22:PySem.W.keepIn K (.ref f22)=true)
    (a23:PySem.W.nsIn K mainGlobals "_law_product"=some (some (.ref f23))) (l23:K.lookup f23=some ⟨oc23,od23,.func (PySem.W.fnOf "_law_product" "_law_product" (zaj yaJ) (yai yaJ) (zad yaJ) .none kV23 dc23 pm23 an23 cd23 ct23),sl23⟩) (c23:PySem.W.codeIn K cd23 "_law_product"=true) (k23:PySem.W.keepIn K (.ref f23)=true)
    (a24:PySem.W.nsIn K mainGlobals "_law_is_good"=some (some (.ref f24))) (l24:K.lookup f24=some ⟨oc24,od24,.func (PySem.W.fnOf "_law_is_good" "_law_is_good" (zaj zaC) (yai zaC) (zad zaC) .none kV24 dc24 pm24 an24 cd24 ct24),sl24⟩) (c24:PySem.W.codeIn K cd24 "_law_is_good"=true) (k24:PySem.W.keepIn K (.ref f24)=true)
    (a25:PySem.W.nsIn K mainGlobals "_law_field"=some (some (.ref f25))) (l25:K.lookup f25=some ⟨oc25,od25,.func (PySem.W.fnOf "_law_field" "_law_field" (zaj zaQ) (yai zaQ) (zad zaQ) .none kV25 dc25 pm25 an25 cd25 ct25),sl25⟩) (c25:PySem.W.codeIn K cd25 "_law_field"=true) (k25:PySem.W.keepIn K (.ref f25)=true)
    (a26:PySem.W.nsIn K mainGlobals "_law_table"=some (some (.ref f26))) (l26:K.lookup f26=some ⟨oc26,od26,.func (PySem.W.fnOf "_law_table" "_law_table" (zaj yaO) (yai yaO) (zad yaO) .none kV26 dc26 pm26 an26 cd26 ct26),sl26⟩) (c26:PySem.W.codeIn K cd26 "_law_table"=true) (k26:PySem.W.keepIn K (.ref f26)=true)
    (a27:PySem.W.nsIn K mainGlobals "_law_plus"=some (some (.ref f27))) (l27:K.lookup f27=some ⟨oc27,od27,.func (PySem.W.fnOf "_law_plus" "_law_plus" (zaj ybc) (yai ybc) (zad ybc) .none kV27 dc27 pm27 an27 cd27 ct27),sl27⟩) (c27:PySem.W.codeIn K cd27 "_law_plus"=true) (k27:PySem.W.keepIn K (.ref f27)=true)
    (a28:PySem.W.nsIn K mainGlobals "_law_times"=some (some (.ref f28))) (l28:K.lookup f28=some ⟨oc28,od28,.func (PySem.W.fnOf "_law_times" "_law_times" (zaj za3) (yai za3) (zad za3) .none kV28 dc28 pm28 an28 cd28 ct28),sl28⟩) (c28:PySem.W.codeIn K cd28 "_law_times"=true) (k28:PySem.W.keepIn K (.ref f28)=true)
    (a29:PySem.W.nsIn K mainGlobals "_law_minus"=some (some (.ref f29))) (l29:K.lookup f29=some ⟨oc29,od29,.func (PySem.W.fnOf "_law_minus" "_law_minus" (zaj ya2) (yai ya2) (zad ya2) .none kV29 dc29 pm29 an29 cd29 ct29),sl29⟩) (c29:PySem.W.codeIn K cd29 "_law_minus"=true) (k29:PySem.W.keepIn K (.ref f29)=true)
    (a30:PySem.W.nsIn K mainGlobals "_law_power"=some (some (.ref f30))) (l30:K.lookup f30=some ⟨oc30,od30,.func (PySem.W.fnOf "_law_power" "_law_power" (zaj ya0) (yai ya0) (zad ya0) .none kV30 dc30 pm30 an30 cd30 ct30),sl30⟩) (c30:PySem.W.codeIn K cd30 "_law_power"=true) (k30:PySem.W.keepIn K (.ref f30)=true)
    (a31:PySem.W.nsIn K mainGlobals "_law_value"=some (some (.ref f31))) (l31:K.lookup f31=some ⟨oc31,od31,.func (PySem.W.fnOf "_law_value" "_law_value" (zaj za4) (yai za4) (zad za4) .none kV31 dc31 pm31 an31 cd31 ct31),sl31⟩) (c31:PySem.W.codeIn K cd31 "_law_value"=true) (k31:PySem.W.keepIn K (.ref f31)=true)
    (a32:PySem.W.nsIn K mainGlobals "_law_round"=some (some (.ref f32))) (l32:K.lookup f32=some ⟨oc32,od32,.func (PySem.W.fnOf "_law_round" "_law_round" (zaj za1) (yai za1) (zad za1) .none kV32 dc32 pm32 an32 cd32 ct32),sl32⟩) (c32:PySem.W.codeIn K cd32 "_law_round"=true) (k32:PySem.W.keepIn K (.ref f32)=true)
    (a33:PySem.W.nsIn K mainGlobals "_law_ring"=some (some (.ref f33))) (l33:K.lookup f33=some ⟨oc33,od33,.func (PySem.W.fnOf "_law_ring" "_law_ring" (zaj za9) (yai za9) (zad za9) .none kV33 dc33 pm33 an33 cd33 ct33),sl33⟩) (c33:PySem.W.codeIn K cd33 "_law_ring"=true) (k33:PySem.W.keepIn K (.ref f33)=true)
    (a34:PySem.W.nsIn K mainGlobals "_law_wheel"=some (some (.ref f34))) (l34:K.lookup f34=some ⟨oc34,od34,.func (PySem.W.fnOf "_law_wheel" "_law_wheel" (zaj zaw) (yai zaw) (zad zaw) .none kV34 dc34 pm34 an34 cd34 ct34),sl34⟩) (c34:PySem.W.codeIn K cd34 "_law_wheel"=true) (k34:PySem.W.keepIn K (.ref f34)=true)
    (a35:PySem.W.nsIn K mainGlobals "_law_rich"=some (some (.ref f35))) (l35:K.lookup f35=some ⟨oc35,od35,.func (PySem.W.fnOf "_law_rich" "_law_rich" (zaj zba) (yai zba) (zad zba) .none kV35 dc35 pm35 an35 cd35 ct35),sl35⟩) (c35:PySem.W.codeIn K cd35 "_law_rich"=true) (k35:PySem.W.keepIn K (.ref f35)=true)
    (a36:PySem.W.nsIn K mainGlobals "_law_share"=some (some (.ref f36))) (l36:K.lookup f36=some ⟨oc36,od36,.func (PySem.W.fnOf "_law_share" "_law_share" (zaj ya1) (yai ya1) (zad ya1) .none kV36 dc36 pm36 an36 cd36 ct36),sl36⟩) (c36:PySem.W.codeIn K cd36 "_law_share"=true) (k36:PySem.W.keepIn K (.ref f36)=true)
    (a37:PySem.W.nsIn K mainGlobals "_law_letters"=some (some (.ref f37))) (l37:K.lookup f37=some ⟨oc37,od37,.func (PySem.W.fnOf "_law_letters" "_law_letters" (zaj zaD) (yai zaD) (zad zaD) .none kV37 dc37 pm37 an37 cd37 ct37),sl37⟩) (c37:PySem.W.codeIn K cd37 "_law_letters"=true) (k37:PySem.W.keepIn K (.ref f37)=true)
    (a38:PySem.W.nsIn K mainGlobals "_law_maker"=some (some (.ref f38))) (l38:K.lookup f38=some ⟨oc38,od38,.func (PySem.W.fnOf "_law_maker" "_law_maker" (zaj yaQ) (yai yaQ) (zad yaQ) .none kV38 dc38 pm38 an38 cd38 ct38),sl38⟩) (c38:PySem.W.codeIn K cd38 "_law_maker"=true) (k38:PySem.W.keepIn K (.ref f38)=true)
    (a39:PySem.W.nsIn K mainGlobals "_law_multiple"=some (some (.ref f39))) (l39:K.lookup f39=some ⟨oc39,od39,.func (PySem.W.fnOf "_law_multiple" "_law_multiple" (zaj zaF) (yai zaF) (zad zaF) .none kV39 dc39 pm39 an39 cd39 ct39),sl39⟩) (c39:PySem.W.codeIn K cd39 "_law_multiple"=true) (k39:PySem.W.keepIn K (.ref f39)=true)
    (a40:PySem.W.nsIn K mainGlobals "_law_drawn_word"=some (some (.ref f40))) (l40:K.lookup f40=some ⟨oc40,od40,.func (PySem.W.fnOf "_law_drawn_word" "_law_drawn_word" (zaj yat) (yai yat) (zad yat) .none kV40 dc40 pm40 an40 cd40 ct40),sl40⟩) (c40:PySem.W.codeIn K cd40 "_law_drawn_word"=true) (k40:PySem.W.keepIn K (.ref f40)=true)
    (a41:PySem.W.nsIn K mainGlobals "_law_paper"=some (some (.ref f41))) (l41:K.lookup f41=some ⟨oc41,od41,.func (PySem.W.fnOf "_law_paper" "_law_paper" (zaj zay) (yai zay) (zad zay) .none kV41 dc41 pm41 an41 cd41 ct41),sl41⟩) (c41:PySem.W.codeIn K cd41 "_law_paper"=true) (k41:PySem.W.keepIn K (.ref f41)=true)
    (a42:PySem.W.nsIn K mainGlobals "_law_faulty"=some (some (.ref f42))) (l42:K.lookup f42=some ⟨oc42,od42,.func (PySem.W.fnOf "_law_faulty" "_law_faulty" (zaj yaU) (yai yaU) (zad yaU) .none kV42 dc42 pm42 an42 cd42 ct42),sl42⟩) (c42:PySem.W.codeIn K cd42 "_law_faulty"=true) (k42:PySem.W.keepIn K (.ref f42)=true)
    (a43:PySem.W.nsIn K mainGlobals "_law_unlike"=some (some (.ref f43))) (l43:K.lookup f43=some ⟨oc43,od43,.func (PySem.W.fnOf "_law_unlike" "_law_unlike" (zaj zaH) (yai zaH) (zad zaH) .none kV43 dc43 pm43 an43 cd43 ct43),sl43⟩) (c43:PySem.W.codeIn K cd43 "_law_unlike"=true) (k43:PySem.W.keepIn K (.ref f43)=true)
    (a44:PySem.W.nsIn K mainGlobals "_law_is_word"=some (some (.ref f44))) (l44:K.lookup f44=some ⟨oc44,od44,.func (PySem.W.fnOf "_law_is_word" "_law_is_word" (zaj yaC) (yai yaC) (zad yaC) .none kV44 dc44 pm44 an44 cd44 ct44),sl44⟩) (c44:PySem.W.codeIn K cd44 "_law_is_word"=true) (k44:PySem.W.keepIn K (.ref f44)=true)
    (a45:PySem.W.nsIn K mainGlobals "_law_odd"=some (some (.ref f45))) (l45:K.lookup f45=some ⟨oc45,od45,.func (PySem.W.fnOf "_law_odd" "_law_odd" (zaj ya3) (yai ya3) (zad ya3) .none kV45 dc45 pm45 an45 cd45 ct45),sl45⟩) (c45:PySem.W.codeIn K cd45 "_law_odd"=true) (k45:PySem.W.keepIn K (.ref f45)=true)
    (a46:PySem.W.nsIn K mainGlobals "_law_due"=some (some (.ref f46))) (l46:K.lookup f46=some ⟨oc46,od46,.func (PySem.W.fnOf "_law_due" "_law_due" (zaj zbc) (yai zbc) (zad zbc) .none kV46 dc46 pm46 an46 cd46 ct46),sl46⟩) (c46:PySem.W.codeIn K cd46 "_law_due"=true) (k46:PySem.W.keepIn K (.ref f46)=true)
    (a47:PySem.W.nsIn K mainGlobals "law"=some (some (.ref f47))) (l47:K.lookup f47=some ⟨oc47,od47,.func (PySem.W.fnOf "law" "law" (zaj zcY) (yai zcY) (zad zcY) .none kV47 dc47 pm47 an47 cd47 ct47),sl47⟩) (c47:PySem.W.codeIn K cd47 "law"=true) (k47:PySem.W.keepIn K (.ref f47)=true)
    (z1:PySem.W.nsIn K mainGlobals "range"=some none) (z2:PySem.W.nsIn K mainGlobals "len"=some none) (z3:PySem.W.nsIn K mainGlobals "abs"=some none) (z4:PySem.W.nsIn K mainGlobals "min"=some none) (z5:PySem.W.nsIn K mainGlobals "max"=some none) (z6:PySem.W.nsIn K mainGlobals "all"=some none) (z7:PySem.W.nsIn K mainGlobals "any"=some none) (z8:PySem.W.nsIn K mainGlobals "isinstance"=some none) (z9:PySem.W.nsIn K mainGlobals "int"=some none) (z10:PySem.W.nsIn K mainGlobals "bool"=some none) (z11:PySem.W.nsIn K mainGlobals "tuple"=some none) (z12:PySem.W.nsIn K mainGlobals "list"=some none) (z13:PySem.W.nsIn K mainGlobals "zip"=some none) (z14:PySem.W.nsIn K mainGlobals "enumerate"=some none) (z15:PySem.W.nsIn K mainGlobals "repr"=some none) (z16:PySem.W.nsIn K mainGlobals "dict"=some none) (z17:PySem.W.nsIn K mainGlobals "reversed"=some none) (z18:PySem.W.nsIn K mainGlobals "sorted"=some none) (z19:PySem.W.nsIn K mainGlobals "sum"=some none) (z20:PySem.W.nsIn K mainGlobals "set"=some none) (z21:PySem.W.nsIn K mainGlobals "str"=some none) :
    ∃fd:FuncData,(∀(s:Shared) (v:Value),BindsTo s fd ⟨[v],[]⟩ [("_law_script",v)])∧∀base:Heap,K.In base→base.Ns mainGlobals mg→FnOk l.prog w K mg base CX0 10 fa fd ["_law_script"] (zdR K):=by
  have e:=hfa.symm.trans (PySem.W.mg_of X G a47)
  cases e
  have F1:=yap (st:=zbm) l1 c1 k1
  have F2:=yap (st:=yaK) l2 c2 k2
  have F3:=yap (st:=zaX) l3 c3 k3
  have F4:=yap (st:=yc4) l4 c4 k4
  have F5:=yap (st:=zaV) l5 c5 k5
  have F6:=yap (st:=yb1) l6 c6 k6
  have F7:=yap (st:=ycf) l7 c7 k7
  have F8:=yap (st:=zaJ) l8 c8 k8
  have F9:=yap (st:=zci) l9 c9 k9
  have F10:=yap (st:=ybm) l10 c10 k10
  have F11:=yap (st:=ybo) l11 c11 k11
  have F12:=yap (st:=yck) l12 c12 k12
  have F13:=yap (st:=yb4) l13 c13 k13
  have F14:=yap (st:=zaS) l14 c14 k14
  have F15:=yap (st:=ybE) l15 c15 k15
  have F16:=yap (st:=ybJ) l16 c16 k16
  have F17:=yap (st:=za0) l17 c17 k17
  have F18:=yap (st:=yaZ) l18 c18 k18
  have F19:=yap (st:=ya9) l19 c19 k19
  have F20:=yap (st:=zaU) l20 c20 k20
  have F21:=yap (st:=yaV) l21 c21 k21
  have F22:=yap (st:=zaW) l22 c22 k22
  have F23:=yap (st:=yaJ) l23 c23 k23
  have F24:=yap (st:=zaC) l24 c24 k24
  have F25:=yap (st:=zaQ) l25 c25 k25
  have F26:=yap (st:=yaO) l26 c26 k26
  have F27:=yap (st:=ybc) l27 c27 k27
  have F28:=yap (st:=za3) l28 c28 k28
  have F29:=yap (st:=ya2) l29 c29 k29
  have F30:=yap (st:=ya0) l30 c30 k30
  have F31:=yap (st:=za4) l31 c31 k31
  have F32:=yap (st:=za1) l32 c32 k32
  have F33:=yap (st:=za9) l33 c33 k33
  have F34:=yap (st:=zaw) l34 c34 k34
  have F35:=yap (st:=zba) l35 c35 k35
  have F36:=yap (st:=ya1) l36 c36 k36
  have F37:=yap (st:=zaD) l37 c37 k37
  have F38:=yap (st:=yaQ) l38 c38 k38
  have F39:=yap (st:=zaF) l39 c39 k39
  have F40:=yap (st:=yat) l40 c40 k40
  have F41:=yap (st:=zay) l41 c41 k41
  have F42:=yap (st:=yaU) l42 c42 k42
  have F43:=yap (st:=zaH) l43 c43 k43
  have F44:=yap (st:=yaC) l44 c44 k44
  have F45:=yap (st:=ya3) l45 c45 k45
  have F46:=yap (st:=zbc) l46 c46 k46
  have F47:=yap (st:=zcY) l47 c47 k47
  have b1:=F1.binds (ps:=["thing"]) fun _ _ _ _ _ _ us hl=>match us,hl with | [_],_=>rfl
  have b2:=F2.binds (ps:=["base","many"]) fun _ _ _ _ _ _ us hl=>match us,hl with | [_,_],_=>rfl
  have b3:=F3.binds (ps:=["field"]) fun _ _ _ _ _ _ us hl=>match us,hl with | [_],_=>rfl
  have b4:=F4.binds (ps:=["field","one","other"]) fun _ _ _ _ _ _ us hl=>match us,hl with | [_,_,_],_=>rfl
  have b5:=F5.binds (ps:=["field","digit","one"]) fun _ _ _ _ _ _ us hl=>match us,hl with | [_,_,_],_=>rfl
  have b6:=F6.binds (ps:=["field","one"]) fun _ _ _ _ _ _ us hl=>match us,hl with | [_,_],_=>rfl
  have b7:=F7.binds (ps:=["field","one","other"]) fun _ _ _ _ _ _ us hl=>match us,hl with | [_,_,_],_=>rfl
  have b8:=F8.binds (ps:=["field","one","many"]) fun _ _ _ _ _ _ us hl=>match us,hl with | [_,_,_],_=>rfl
  have b9:=F9.binds (ps:=["field","one","many"]) fun _ _ _ _ _ _ us hl=>match us,hl with | [_,_,_],_=>rfl
  have b10:=F10.binds (ps:=["field","one"]) fun _ _ _ _ _ _ us hl=>match us,hl with | [_,_],_=>rfl
  have b11:=F11.binds (ps:=["field","few"]) fun _ _ _ _ _ _ us hl=>match us,hl with | [_,_],_=>rfl
  have b12:=F12.binds (ps:=["field","row","one"]) fun _ _ _ _ _ _ us hl=>match us,hl with | [_,_,_],_=>rfl
  have b13:=F13.binds (ps:=["wheel"]) fun _ _ _ _ _ _ us hl=>match us,hl with | [_],_=>rfl
  have b14:=F14.binds (ps:=["wheel","thing"]) fun _ _ _ _ _ _ us hl=>match us,hl with | [_,_],_=>rfl
  have b15:=F15.binds (ps:=["wheel","thing"]) fun _ _ _ _ _ _ us hl=>match us,hl with | [_,_],_=>rfl
  have b16:=F16.binds (ps:=["one","other","lost"]) fun _ _ _ _ _ _ us hl=>match us,hl with | [_,_,_],_=>rfl
  have b17:=F17.binds (ps:=["wheel","paper","got","lost","thing"]) fun _ _ _ _ _ _ us hl=>match us,hl with | [_,_,_,_,_],_=>rfl
  have b18:=F18.binds (ps:=["_law_script"]) fun _ _ _ _ _ _ us hl=>match us,hl with | [_],_=>rfl
  have b19:=F19.binds (ps:=["_law_purse_here","_law_many"]) fun _ _ _ _ _ _ us hl=>match us,hl with | [_,_],_=>rfl
  have b20:=F20.binds (ps:=["_law_one","_law_many"]) fun _ _ _ _ _ _ us hl=>match us,hl with | [_,_],_=>rfl
  have b21:=F21.binds (ps:=["_law_field_here","_law_thing"]) fun _ _ _ _ _ _ us hl=>match us,hl with | [_,_],_=>rfl
  have b22:=F22.binds (ps:=["_law_field_here","_law_digits_here"]) fun _ _ _ _ _ _ us hl=>match us,hl with | [_,_],_=>rfl
  have b23:=F23.binds (ps:=["_law_field_here","_law_one","_law_other"]) fun _ _ _ _ _ _ us hl=>match us,hl with | [_,_,_],_=>rfl
  have b24:=F24.binds (ps:=["_law_field_here"]) fun _ _ _ _ _ _ us hl=>match us,hl with | [_],_=>rfl
  have b25:=F25.binds (ps:=["_law_purse_here"]) fun _ _ _ _ _ _ us hl=>match us,hl with | [_],_=>rfl
  have b26:=F26.binds (ps:=["_law_field_here"]) fun _ _ _ _ _ _ us hl=>match us,hl with | [_],_=>rfl
  have b27:=F27.binds (ps:=["_law_table_here","_law_one","_law_other"]) fun _ _ _ _ _ _ us hl=>match us,hl with | [_,_,_],_=>rfl
  have b28:=F28.binds (ps:=["_law_table_here","_law_one","_law_other"]) fun _ _ _ _ _ _ us hl=>match us,hl with | [_,_,_],_=>rfl
  have b29:=F29.binds (ps:=["_law_table_here","_law_one","_law_other"]) fun _ _ _ _ _ _ us hl=>match us,hl with | [_,_,_],_=>rfl
  have b30:=F30.binds (ps:=["_law_table_here","_law_one","_law_many"]) fun _ _ _ _ _ _ us hl=>match us,hl with | [_,_,_],_=>rfl
  have b31:=F31.binds (ps:=["_law_table_here","_law_row","_law_one"]) fun _ _ _ _ _ _ us hl=>match us,hl with | [_,_,_],_=>rfl
  have b32:=F32.binds (ps:=["_law_table_here","_law_one"]) fun _ _ _ _ _ _ us hl=>match us,hl with | [_,_],_=>rfl
  have b33:=F33.binds (ps:=["_law_i","_law_n","_law_q"]) fun _ _ _ _ _ _ us hl=>match us,hl with | [_,_,_],_=>rfl
  have b34:=F34.binds (ps:=["_law_purse_here","_law_most"]) fun _ _ _ _ _ _ us hl=>match us,hl with | [_,_],_=>rfl
  have b35:=F35.binds (ps:=["_law_purse_here","_law_most"]) fun _ _ _ _ _ _ us hl=>match us,hl with | [_,_],_=>rfl
  have b36:=F36.binds (ps:=["_law_one","_law_other"]) fun _ _ _ _ _ _ us hl=>match us,hl with | [_,_],_=>rfl
  have b37:=F37.binds (ps:=["_law_table_here","_law_few"]) fun _ _ _ _ _ _ us hl=>match us,hl with | [_,_],_=>rfl
  have b38:=F38.binds (ps:=["_law_table_here","_law_wheel_here"]) fun _ _ _ _ _ _ us hl=>match us,hl with | [_,_],_=>rfl
  have b39:=F39.binds (ps:=["_law_table_here","_law_wheel_here","_law_n","_law_given"]) fun _ _ _ _ _ _ us hl=>match us,hl with | [_,_,_,_],_=>rfl
  have b40:=F40.binds (ps:=["_law_purse_here","_law_table_here","_law_wheel_here","_law_n"]) fun _ _ _ _ _ _ us hl=>match us,hl with | [_,_,_,_],_=>rfl
  have b41:=F41.binds (ps:=["_law_purse_here","_law_wheel_here","_law_n"]) fun _ _ _ _ _ _ us hl=>match us,hl with | [_,_,_],_=>rfl
  have b42:=F42.binds (ps:=["_law_purse_here","_law_some","_law_word","_law_many"]) fun _ _ _ _ _ _ us hl=>match us,hl with | [_,_,_,_],_=>rfl
  have b43:=F43.binds (ps:=["_law_one","_law_other"]) fun _ _ _ _ _ _ us hl=>match us,hl with | [_,_],_=>rfl
  have b44:=F44.binds (ps:=["_law_table_here","_law_wheel_here","_law_word"]) fun _ _ _ _ _ _ us hl=>match us,hl with | [_,_,_],_=>rfl
  have b45:=F45.binds (ps:=["_law_purse_here","_law_table_here","_law_word"]) fun _ _ _ _ _ _ us hl=>match us,hl with | [_,_,_],_=>rfl
  have b46:=F46.binds (ps:=["_law_table_here","_law_wheel_here","_law_paper_here","_law_got","_law_lost","_law_thing"]) fun _ _ _ _ _ _ us hl=>match us,hl with | [_,_,_,_,_,_],_=>rfl
  have B:Bl mg:=by
    intro x hx
    simp only [ygw,List.mem_cons,List.not_mem_nil,or_false] at hx
    rcases hx with rfl|rfl|rfl|rfl|rfl|rfl|rfl|rfl|rfl|rfl|rfl|rfl|rfl|rfl|rfl|rfl|rfl|rfl|rfl|rfl|rfl
    · exact PySem.W.mg_none_of X G z1
    · exact PySem.W.mg_none_of X G z2
    · exact PySem.W.mg_none_of X G z3
    · exact PySem.W.mg_none_of X G z4
    · exact PySem.W.mg_none_of X G z5
    · exact PySem.W.mg_none_of X G z6
    · exact PySem.W.mg_none_of X G z7
    · exact PySem.W.mg_none_of X G z8
    · exact PySem.W.mg_none_of X G z9
    · exact PySem.W.mg_none_of X G z10
    · exact PySem.W.mg_none_of X G z11
    · exact PySem.W.mg_none_of X G z12
    · exact PySem.W.mg_none_of X G z13
    · exact PySem.W.mg_none_of X G z14
    · exact PySem.W.mg_none_of X G z15
    · exact PySem.W.mg_none_of X G z16
    · exact PySem.W.mg_none_of X G z17
    · exact PySem.W.mg_none_of X G z18
    · exact PySem.W.mg_none_of X G z19
    · exact PySem.W.mg_none_of X G z20
    · exact PySem.W.mg_none_of X G z21
  refine ⟨PySem.W.fnOf "law" "law" (zaj zcY) (yai zcY) (zad zcY) .none kV47 dc47 pm47 an47 cd47 ct47,fun s v=>.of_eq rfl,fun base _ _=>?_⟩
  have h_is_whole:Has l.prog w K mg base 1 "is_whole" ["thing"] _:=⟨f1,_,yg7 (P:=l.prog) (w:=w) (base:=base) B  F1,b1,k1,PySem.W.mg_of X G a1⟩
  have h_number_power:Has l.prog w K mg base 1 "number_power" ["base","many"] _:=⟨f2,_,zcO (P:=l.prog) (w:=w) (base:=base) B  F2,b2,k2,PySem.W.mg_of X G a2⟩
  have h_many_things:Has l.prog w K mg base 2 "many_things" ["field"] _:=⟨f3,_,zgR (P:=l.prog) (w:=w) (base:=base) B h_number_power F3,b3,k3,PySem.W.mg_of X G a3⟩
  have h_plus:Has l.prog w K mg base 1 "plus" ["field","one","other"] _:=⟨f4,_,zgX (P:=l.prog) (w:=w) (base:=base) B  F4,b4,k4,PySem.W.mg_of X G a4⟩
  have h_digit_times:Has l.prog w K mg base 1 "digit_times" ["field","digit","one"] _:=⟨f5,_,zcZ (P:=l.prog) (w:=w) (base:=base) B  F5,b5,k5,PySem.W.mg_of X G a5⟩
  have h_lifted:Has l.prog w K mg base 2 "lifted" ["field","one"] _:=⟨f6,_,yfi (P:=l.prog) (w:=w) (base:=base) B h_plus h_digit_times h_number_power F6,b6,k6,PySem.W.mg_of X G a6⟩
  have h_times:Has l.prog w K mg base 3 "times" ["field","one","other"] _:=⟨f7,_,zf1 (P:=l.prog) (w:=w) (base:=base) B h_plus h_digit_times h_lifted F7,b7,k7,PySem.W.mg_of X G a7⟩
  have h_times_itself:Has l.prog w K mg base 4 "times_itself" ["field","one","many"] _:=⟨f8,_,ze7 (P:=l.prog) (w:=w) (base:=base) B h_times F8,b8,k8,PySem.W.mg_of X G a8⟩
  have h_power:Has l.prog w K mg base 5 "power" ["field","one","many"] _:=⟨f9,_,ygb (P:=l.prog) (w:=w) (base:=base) B h_times_itself h_many_things F9,b9,k9,PySem.W.mg_of X G a9⟩
  have h_round_of:Has l.prog w K mg base 4 "round_of" ["field","one"] _:=⟨f10,_,yfR (P:=l.prog) (w:=w) (base:=base) B h_times F10,b10,k10,PySem.W.mg_of X G a10⟩
  have h_letters:Has l.prog w K mg base 6 "letters" ["field","few"] _:=⟨f11,_,zeI (P:=l.prog) (w:=w) (base:=base) B h_number_power h_power h_many_things F11,b11,k11,PySem.W.mg_of X G a11⟩
  have h_value:Has l.prog w K mg base 4 "value" ["field","row","one"] _:=⟨f12,_,yfV (P:=l.prog) (w:=w) (base:=base) B h_plus h_times F12,b12,k12,PySem.W.mg_of X G a12⟩
  have h_length:Has l.prog w K mg base 5 "length" ["wheel"] _:=⟨f13,_,yfq (P:=l.prog) (w:=w) (base:=base) B h_round_of F13,b13,k13,PySem.W.mg_of X G a13⟩
  have h_is_letters:Has l.prog w K mg base 7 "is_letters" ["wheel","thing"] _:=⟨f14,_,zf5 (P:=l.prog) (w:=w) (base:=base) B h_length h_letters h_is_whole F14,b14,k14,PySem.W.mg_of X G a14⟩
  have h_is_word:Has l.prog w K mg base 8 "is_word" ["wheel","thing"] _:=⟨f15,_,yfP (P:=l.prog) (w:=w) (base:=base) B h_is_letters h_value h_power F15,b15,k15,PySem.W.mg_of X G a15⟩
  have h_unlike:Has l.prog w K mg base 1 "unlike" ["one","other","lost"] _:=⟨f16,_,zfl (P:=l.prog) (w:=w) (base:=base) B  F16,b16,k16,PySem.W.mg_of X G a16⟩
  have h_shows_lost:Has l.prog w K mg base 9 "shows_lost" ["wheel","paper","got","lost","thing"] _:=⟨f17,_,ygf (P:=l.prog) (w:=w) (base:=base) B h_is_word h_unlike F17,b17,k17,PySem.W.mg_of X G a17⟩
  have h__law_purse:Has l.prog w K mg base 1 "_law_purse" ["_law_script"] _:=⟨f18,_,ygk (P:=l.prog) (w:=w) (base:=base) B  F18,b18,k18,PySem.W.mg_of X G a18⟩
  have h__law_pick:Has l.prog w K mg base 1 "_law_pick" ["_law_purse_here","_law_many"] _:=⟨f19,_,zgG (P:=l.prog) (w:=w) (base:=base) B  F19,b19,k19,PySem.W.mg_of X G a19⟩
  have h__law_raised:Has l.prog w K mg base 1 "_law_raised" ["_law_one","_law_many"] _:=⟨f20,_,yeV (P:=l.prog) (w:=w) (base:=base) B  F20,b20,k20,PySem.W.mg_of X G a20⟩
  have h__law_digits:Has l.prog w K mg base 1 "_law_digits" ["_law_field_here","_law_thing"] _:=⟨f21,_,ye3 (P:=l.prog) (w:=w) (base:=base) B  F21,b21,k21,PySem.W.mg_of X G a21⟩
  have h__law_number:Has l.prog w K mg base 1 "_law_number" ["_law_field_here","_law_digits_here"] _:=⟨f22,_,zfb (P:=l.prog) (w:=w) (base:=base) B  F22,b22,k22,PySem.W.mg_of X G a22⟩
  have h__law_product:Has l.prog w K mg base 2 "_law_product" ["_law_field_here","_law_one","_law_other"] _:=⟨f23,_,yeD (P:=l.prog) (w:=w) (base:=base) B h__law_digits h__law_number F23,b23,k23,PySem.W.mg_of X G a23⟩
  have h__law_is_good:Has l.prog w K mg base 3 "_law_is_good" ["_law_field_here"] _:=⟨f24,_,ygA (P:=l.prog) (w:=w) (base:=base) B h__law_raised h__law_product F24,b24,k24,PySem.W.mg_of X G a24⟩
  have h__law_field:Has l.prog w K mg base 4 "_law_field" ["_law_purse_here"] _:=⟨f25,_,zgl (P:=l.prog) (w:=w) (base:=base) B h__law_pick h__law_raised h__law_is_good F25,b25,k25,PySem.W.mg_of X G a25⟩
  have h__law_table:Has l.prog w K mg base 3 "_law_table" ["_law_field_here"] _:=⟨f26,_,ygo (P:=l.prog) (w:=w) (base:=base) B h__law_raised h__law_product F26,b26,k26,PySem.W.mg_of X G a26⟩
  have h__law_plus:Has l.prog w K mg base 1 "_law_plus" ["_law_table_here","_law_one","_law_other"] _:=⟨f27,_,zf2 (P:=l.prog) (w:=w) (base:=base) B  F27,b27,k27,PySem.W.mg_of X G a27⟩
  have h__law_times:Has l.prog w K mg base 1 "_law_times" ["_law_table_here","_law_one","_law_other"] _:=⟨f28,_,zfD (P:=l.prog) (w:=w) (base:=base) B  F28,b28,k28,PySem.W.mg_of X G a28⟩
  have h__law_minus:Has l.prog w K mg base 2 "_law_minus" ["_law_table_here","_law_one","_law_other"] _:=⟨f29,_,zeY (P:=l.prog) (w:=w) (base:=base) B h__law_plus h__law_times F29,b29,k29,PySem.W.mg_of X G a29⟩
  have h__law_power:Has l.prog w K mg base 1 "_law_power" ["_law_table_here","_law_one","_law_many"] _:=⟨f30,_,yfQ (P:=l.prog) (w:=w) (base:=base) B  F30,b30,k30,PySem.W.mg_of X G a30⟩
  have h__law_value:Has l.prog w K mg base 2 "_law_value" ["_law_table_here","_law_row","_law_one"] _:=⟨f31,_,zfR (P:=l.prog) (w:=w) (base:=base) B h__law_plus h__law_times F31,b31,k31,PySem.W.mg_of X G a31⟩
  have h__law_round:Has l.prog w K mg base 2 "_law_round" ["_law_table_here","_law_one"] _:=⟨f32,_,yfr (P:=l.prog) (w:=w) (base:=base) B h__law_times F32,b32,k32,PySem.W.mg_of X G a32⟩
  have h__law_ring:Has l.prog w K mg base 1 "_law_ring" ["_law_i","_law_n","_law_q"] _:=⟨f33,_,yfU (P:=l.prog) (w:=w) (base:=base) B  F33,b33,k33,PySem.W.mg_of X G a33⟩
  have h__law_wheel:Has l.prog w K mg base 5 "_law_wheel" ["_law_purse_here","_law_most"] _:=⟨f34,_,yeT (P:=l.prog) (w:=w) (base:=base) B h__law_pick h__law_field h__law_table h__law_raised h__law_round h__law_ring F34,b34,k34,PySem.W.mg_of X G a34⟩
  have h__law_rich:Has l.prog w K mg base 6 "_law_rich" ["_law_purse_here","_law_most"] _:=⟨f35,_,ygg (P:=l.prog) (w:=w) (base:=base) B h__law_pick h__law_wheel h__law_round h__law_ring h__law_raised F35,b35,k35,PySem.W.mg_of X G a35⟩
  have h__law_share:Has l.prog w K mg base 1 "_law_share" ["_law_one","_law_other"] _:=⟨f36,_,yfb (P:=l.prog) (w:=w) (base:=base) B  F36,b36,k36,PySem.W.mg_of X G a36⟩
  have h__law_letters:Has l.prog w K mg base 2 "_law_letters" ["_law_table_here","_law_few"] _:=⟨f37,_,yd1 (P:=l.prog) (w:=w) (base:=base) B h__law_raised h__law_power F37,b37,k37,PySem.W.mg_of X G a37⟩
  have h__law_maker:Has l.prog w K mg base 3 "_law_maker" ["_law_table_here","_law_wheel_here"] _:=⟨f38,_,ze3 (P:=l.prog) (w:=w) (base:=base) B h__law_power h__law_minus h__law_times F38,b38,k38,PySem.W.mg_of X G a38⟩
  have h__law_multiple:Has l.prog w K mg base 4 "_law_multiple" ["_law_table_here","_law_wheel_here","_law_n","_law_given"] _:=⟨f39,_,ye1 (P:=l.prog) (w:=w) (base:=base) B h__law_maker h__law_plus h__law_times F39,b39,k39,PySem.W.mg_of X G a39⟩
  have h__law_drawn_word:Has l.prog w K mg base 5 "_law_drawn_word" ["_law_purse_here","_law_table_here","_law_wheel_here","_law_n"] _:=⟨f40,_,yfH (P:=l.prog) (w:=w) (base:=base) B h__law_pick h__law_letters h__law_multiple F40,b40,k40,PySem.W.mg_of X G a40⟩
  have h__law_paper:Has l.prog w K mg base 2 "_law_paper" ["_law_purse_here","_law_wheel_here","_law_n"] _:=⟨f41,_,yfK (P:=l.prog) (w:=w) (base:=base) B h__law_pick h__law_share F41,b41,k41,PySem.W.mg_of X G a41⟩
  have h__law_faulty:Has l.prog w K mg base 2 "_law_faulty" ["_law_purse_here","_law_some","_law_word","_law_many"] _:=⟨f42,_,yfg (P:=l.prog) (w:=w) (base:=base) B h__law_pick F42,b42,k42,PySem.W.mg_of X G a42⟩
  have h__law_unlike:Has l.prog w K mg base 1 "_law_unlike" ["_law_one","_law_other"] _:=⟨f43,_,yeP (P:=l.prog) (w:=w) (base:=base) B  F43,b43,k43,PySem.W.mg_of X G a43⟩
  have h__law_is_word:Has l.prog w K mg base 3 "_law_is_word" ["_law_table_here","_law_wheel_here","_law_word"] _:=⟨f44,_,zhf (P:=l.prog) (w:=w) (base:=base) B h__law_value h__law_power F44,b44,k44,PySem.W.mg_of X G a44⟩
  have h__law_odd:Has l.prog w K mg base 2 "_law_odd" ["_law_purse_here","_law_table_here","_law_word"] _:=⟨f45,_,ygK (P:=l.prog) (w:=w) (base:=base) B h__law_pick F45,b45,k45,PySem.W.mg_of X G a45⟩
  have h__law_due:Has l.prog w K mg base 4 "_law_due" ["_law_table_here","_law_wheel_here","_law_paper_here","_law_got","_law_lost","_law_thing"] _:=⟨f46,_,zgg (P:=l.prog) (w:=w) (base:=base) B h__law_is_word h__law_unlike F46,b46,k46,PySem.W.mg_of X G a46⟩
  exact yg3 (P:=l.prog) (w:=w) (base:=base) B h__law_purse h__law_pick h__law_rich h__law_paper h__law_letters h__law_drawn_word h__law_faulty h_shows_lost h__law_due h__law_odd F47
theorem walk {l:PySem.W.OpenLaw} {q:Program} {loose:List Str} {XP:(Str→Option Value)→Heap→Prop} {YP:World→Heap→Prop} {d:DefRec} {K:Params→PySem.W.Frag} (hn:l.most=some 63) (hdf:d.params.defaults=[])
    (hY:∀(w:World) (h:Heap),YP w h→(K w.params).In h)
    (F:∀(w:World) (mg:Str→Option Value) (fa:Addr) (h:Heap),(K w.params).In h→h.Ns mainGlobals mg→mg d.name=some (.ref fa)→
      ∃fd:FuncData,(∀(s:Shared) (u:Value),BindsTo s fd ⟨[u],[]⟩ [("_law_script",u)])∧∀base:Heap,(K w.params).In base→base.Ns mainGlobals mg→FnOk l.prog w (K w.params) mg base CX0 10 fa fd ["_law_script"] (zdR (K w.params))) :
    PySem.W.WalkO q loose XP YP l.row.toRowW d [] (fun f vs=>PySem.call f vs) :=
  L2.walk_of (n:=63) (k:=10) (x:="_law_script") (CX:=fun _=>CX0) (sp:=fun w=>zdR (K w.params)) hn (by decide) hdf ⟨rfl,by decide,by decide,rfl⟩ hY F (fun _ _ a ns hl _ hS=>yf6 hl hS) fun _ _ _ _ _ z=>z
end My
namespace PySem.W.Fast
def tw7309248789742202022:=0
def tw16203455557124450531:=0
def tw10864247836808249227:=0
def tw11922155577134047651:=0
def tw17394952175011541343:=0
def tw8586329110709347625:=0
def tw5255568123564870932:=0
def tw15983930659939804715:=0
def tw17972061100963486228:=0
def tw8514697064561173565:=0
def tw8422066933900265268:=0
def tw17746795572526650205:=0
def tw11945291945262527310:=0
def tw11938980019346965163:=0
def tw18277558266223504343:=0
def tw14395274686110743770:=0
def tw9393759582762173102:=0
def tw7505344773253430836:=0
def tw11961521175153388815:=0
def tw14061624015260497196:=0
def tw11311033433457764367:=0
def tw9969386947136080179:=0
def tw17963027835732793082:=0
def tw5845314863323026851:=0
def tw3861693728231594001:=0
def tw1209237927736930067:=0
def tw6087681128878808605:=0
def tw17840104530862290830:=0
def tw3962720889672442283:=0
def tw2731565726253747323:=0
def tw13596951212001933549:=0
def tw7594089797455187398:=0
def tw8696130742613332754:=0
def tw9520352965589180757:=0
def tw7715894645437997733:=0
def tw9422620978831698452:=0
def tw13143750860919840645:=0
def tw13407840332988393589:=0
def tw15525729496897937017:=0
def tw16667587515990170493:=0
def tw15693155602071634160:=0
def tw15793760283648632473:=0
def tw14631534705387701355:=0
def tw17207893774515427850:=0
def tw27603099680713805:=0
def tw8566296195310210650:=0
def tw14545089245197280946:=0
def tw15366353652866158150:=0
def tw982945812015699549:=0
def tw805920662343658419:=0
def tw8412115792291751676:=0
def tw16911186940352197935:=0
def tw978725094472791014:=0
def tw4380804462337435130:=0
def tw17292984307188811738:=0
def tw5580515573127019074:=0
def tw8884148620705973282:=0
def tw18142405906970252740:=0
def tw5331817483618146274:=0
def tw7028672212712089433:=0
def tw8182698968469664161:=0
def tw7589608015026729549:=0
def tw10465350188665968076:=0
def tw1756323883493944980:=0
def tw8467991311261903758:=0
def tw3659699813941279791:=0
def tw17302069096681320427:=0
def tw17329882782320904416:=0
def tw9310900534524647405:=0
def tw17104754535263173748:=0
def tw14763140883628047936:=0
def tw14329813624633054493:=0
def tw1416755143044659075:=0
def tw4855155653423709074:=0
def tw7099679595756753226:=0
def tw12018105422313147735:=0
def tw4594090128878924683:=0
def tw15430712632872769847:=0
def tw2001086584778966426:=0
def tw8358672888553007273:=0
def tw5159534693286235139:=0
def tw1908240592629484565:=0
def tw2033369742917373356:=0
def tw4493421850854492443:=0
def tw16588142007085547331:=0
def tw6024636877940856700:=0
def tw6480891343350939739:=0
def tw2546841548407274921:=0
def tw15037149448645717011:=0
def tw1224540434987392632:=0
def tw7555566621515858067:=0
def tw8074333846100085116:=0
def tw419773497262144826:=0
def tw5993591199118498985:=0
def tw3131383475855730017:=0
def tw5522749267657219530:=0
def tw3884819750183451418:=0
def tw16330318963852315312:=0
def tw1371119086503935569:=0
def tw107330693936049871:=0
def tw16511065521788080366:=0
def tw9013004406689744284:=0
def tw9815578295438792002:=0
def tw7262335713671537167:=0
def tw14959327769400945760:=0
def tw6074837791925577711:=0
def tw8479424201104267311:=0
def tw4520236382974446950:=0
def tw1360832548190229480:=0
def tw867796429493785514:=0
def tw2534836131566520361:=0
def tw16723184215611931729:=0
def tw14481782308489087:=0
def tw4275622247696685938:=0
def tw15621989038704118664:=0
def tw4130284928833240738:=0
def tw6589025136318227634:=0
def tw6032412661291158798:=0
def tw13492362465019490412:=0
def tw11786352710845630182:=0
def tw15794703958584601511:=0
def tw11309133514610740292:=0
def tw16116786019816418500:=0
def tw2533166989324616543:=0
def tw11134941424239136012:=0
def tw3695685896071892384:=0
def tw8463679820782134530:=0
def tw2164928937027908019:=0
def tw8679533168001108129:=0
def tw2285676843410835708:=0
def tw1890349907060581082:=0
def tw17503650240750468106:=0
def tw2206883570241695837:=0
def tw15116452735350999758:=0
def tw17347557722762318276:=0
def tw37026301411419826:=0
def tw5466026974498429194:=0
def tw4954507583328440340:=0
def tw5281139848336271060:=0
def tw17381654788948645829:=0
def tw10703085286301571381:=0
def tw7947944392676996576:=0
def tw8755165255108555840:=0
def tw3739835688792126567:=0
def tw15596199063431165986:=0
def tw79339122882263624:=0
def tw12452160149626871135:=0
def tw2012762721061598514:=0
def tw165235599126579364:=0
def tw3526085128033626112:=0
def tw6542821280439878173:=0
def tw18002349069912793439:=0
def tw2157130762316367289:=0
def tw7336597638136720484:=0
def tw7183390305952243905:=0
def tw15534988959912583243:=0
def tw16599102731260798632:=0
def tw13124561760255781192:=0
def tw3163178115702802133:=0
def tw10518212924397564767:=0
def tw17264881748246948636:=0
def tw2135730329872205957:=0
def tw6184201063142087334:=0
def tw832157059298971537:=0
def tw16400550557949540419:=0
def tw15652199803097612643:=0
def tw10749450683768587898:=0
def tw10574436497462240338:=0
def tw5590182007374810071:=0
def tw5001840407352236748:=0
def tw14986183993640335278:=0
def tw18005095292639598040:=0
def tw7297099552190271314:=0
def tw1263961560884933199:=0
def tw16128099796483663909:=0
def tw9489172894834680152:=0
def tw1975042791548347802:=0
def tw4555539197472939006:=0
def tw8508352292478157597:=0
def tw579428557744319146:=0
def tw10100851106487377526:=0
def tw10471909280257902616:=0
def tw12285075266297905886:=0
def tw17862663444066386808:=0
def tw3880759791799610022:=0
def tw10679331964418792954:=0
def tw7458975569128268243:=0
def tw13195033317654831337:=0
def tw12089365279132459196:=0
def tw7093003542970612471:=0
def tw2028919440487039458:=0
def tw14224409612360389480:=0
def tw13006183275191117433:=0
def tw1550984910237534201:=0
def tw8705234699137130360:=0
def tw9068268527349728254:=0
def tw15373768966773890484:=0
def tw18372239712845149902:=0
def tw13414114671595207962:=0
def tw13874074785388834854:=0
def tw15993094362747930772:=0
def tw8650169805255353567:=0
def tw6360702012583980888:=0
def tw1389242192717068274:=0
def tw10640988841169396047:=0
def tw16863223315901544309:=0
def tw13155097999882504803:=0
def tw5833481631481705155:=0
def tw7528703087256017427:=0
def tw6413396046315820042:=0
def tw14495765944811008051:=0
def tw14328419024316173050:=0
def tw7571584186262004594:=0
def tw6923939277069781691:=0
def tw5371215779545937160:=0
def tw15423860098317173323:=0
def tw12994561743568852864:=0
def tw5915256445200208538:=0
def tw6357811749191672579:=0
def tw5215797267827723523:=0
def tw3267254871070340667:=0
def tw16944204591095646411:=0
def tw15994938128983986640:=0
def tw12132202865375258884:=0
def tw6520935573099049428:=0
def tw12790109349794827994:=0
def tw9118035728465541655:=0
def tw6257031707970137791:=0
def tw12384385944392559673:=0
def tw12391653860568017367:=0
def tw7412674389350202935:=0
def tw3402006670307161128:=0
def tw5965209412692706260:=0
def tw16119720780011990109:=0
def tw12379552164350647417:=0
def tw10096349279810720936:=0
def tw17977792034169845057:=0
def tw14533376619619936676:=0
def tw10807520230333991054:=0
def tw12306480843385032571:=0
def tw9230301305649931669:=0
def tw17025334275923459915:=0
def tw15982316130748118760:=0
def tw9242325669946085803:=0
def tw14042697134334658565:=0
def tw13315766217585143387:=0
def tw12517602854611223394:=0
def tw13088968781378422868:=0
def tw1193974915382842210:=0
def tw4499879579408716992:=0
def tw12283965280085331467:=0
def tw647229156373791993:=0
def tw11612182055737539212:=0
def tw10887542914198539773:=0
def tw17962941073674147058:=0
def tw838538140617886897:=0
def tw11971479770362521974:=0
def tw8999763039293765665:=0
def tw12030609457651588967:=0
def tw98037863992594427:=0
def tw4594351157441257035:=0
def tw9467763394529404651:=0
def tw16864255180637103182:=0
def tw15964037389562305565:=0
def tw11667587931418424741:=0
def tw1728065064264368605:=0
def tw11777220984179880954:=0
def tw17815748219635373785:=0
def tw14426193691132896438:=0
def tw7907127766254592219:=0
def tw9261556223271721594:=0
def tw16700227659813526619:=0
def tw7645298796240122430:=0
def tw11018173551708222409:=0
def tw10553636969560948892:=0
def tw8982096390969712601:=0
def tw4519517001908004871:=0
def tw11846310113978033000:=0
def tw8632701747134526081:=0
def tw17959919147868810638:=0
def tw13027184562838836795:=0
def tw10872216867097240640:=0
def tw7287024381934342467:=0
def tw12577170945752141046:=0
def tw10273208104324935649:=0
def tw13021537296876312874:=0
def tw13770043446432949606:=0
def tw1942983961786533636:=0
def tw6207844953911011034:=0
def tw8742938091488126844:=0
def tw10804349826789792260:=0
def tw14042585525574064520:=0
def tw14328757392810452296:=0
def tw14019052675463965635:=0
def tw1019021714755265521:=0
def tw12039618863872478539:=0
def tw400133735731155732:=0
def tw1461056142484346526:=0
def tw1497410885681204350:=0
def tw3617009549332719446:=0
def tw10352211813899209556:=0
def tw1920678232575165963:=0
def tw12687249248189528982:=0
end PySem.W.Fast
open PySem PySem.W PyProof.Rows
set_option maxRecDepth 100000 in
set_option maxHeartbeats 0 in
theorem PySem.Challenge.cw_roundwords_k46_lost_shown_holds : PySem.Challenge.rw_roundwords_k46_lost_shown.Holds := by
  w_on;refine holds_law yg0 fun said=>?_;k_head;(case hw=>w_witness2)
  k_fill
  refine My.walk (l:=PySem.Challenge.rw_roundwords_k46_lost_shown) rfl rfl (fun w h Y=>PySem.W.kIn_of Y) ?F
  case F =>
    intro w mg fa h KX G hmg
    refine' My.all_mk KX G hmg ?a1 ?l1 ?c1 ?k1 ?a2 ?l2 ?c2 ?k2 ?a3 ?l3 ?c3 ?k3 ?a4 ?l4 ?c4 ?k4 ?a5 ?l5 ?c5 ?k5 ?a6 ?l6 ?c6 ?k6 ?a7 ?l7 ?c7 ?k7 ?a8 ?l8 ?c8 ?k8 ?a9 ?l9 ?c9 ?k9 ?a10 ?l10 ?c10 ?k10 ?a11 ?l11 ?c11 ?k11 ?a12 ?l12 ?c12 ?k12 ?a13 ?l13 ?c13 ?k13 ?a14 ?l14 ?c14 ?k14 ?a15 ?l15 ?c15 ?k15 ?a16 ?l16 ?c16 ?k16 ?a17 ?l17 ?c17 ?k17 ?a18 ?l18 ?c18 ?k18 ?a19 ?l19 ?c19 ?k19 ?a20 ?l20 ?c20 ?k20 ?a21 ?l21 ?c21 ?k21 ?a22 ?l22 ?c22 ?k22 ?a23 ?l23 ?c23 ?k23 ?a24 ?l24 ?c24 ?k24 ?a25 ?l25 ?c25 ?k25 ?a26 ?l26 ?c26 ?k26 ?a27 ?l27 ?c27 ?k27 ?a28 ?l28 ?c28 ?k28 ?a29 ?l29 ?c29 ?k29 ?a30 ?l30 ?c30 ?k30 ?a31 ?l31 ?c31 ?k31 ?a32 ?l32 ?c32 ?k32 ?a33 ?l33 ?c33 ?k33 ?a34 ?l34 ?c34 ?k34 ?a35 ?l35 ?c35 ?k35 ?a36 ?l36 ?c36 ?k36 ?a37 ?l37 ?c37 ?k37 ?a38 ?l38 ?c38 ?k38 ?a39 ?l39 ?c39 ?k39 ?a40 ?l40 ?c40 ?k40 ?a41 ?l41 ?c41 ?k41 ?a42 ?l42 ?c42 ?k42 ?a43 ?l43 ?c43 ?k43 ?a44 ?l44 ?c44 ?k44 ?a45 ?l45 ?c45 ?k45 ?a46 ?l46 ?c46 ?k46 ?a47 ?l47 ?c47 ?k47 ?z1 ?z2 ?z3 ?z4 ?z5 ?z6 ?z7 ?z8 ?z9 ?z10 ?z11 ?z12 ?z13 ?z14 ?z15 ?z16 ?z17 ?z18 ?z19 ?z20 ?z21
    (case a1=>k_is);(case l1=>k_is);(case c1=>k_is);(case k1=>k_is)
    (case a2=>k_is);(case l2=>k_is);(case c2=>k_is);(case k2=>k_is)
    (case a3=>k_is);(case l3=>k_is);(case c3=>k_is);(case k3=>k_is)
    (case a4=>k_is);(case l4=>k_is);(case c4=>k_is);(case k4=>k_is)
    (case a5=>k_is);(case l5=>k_is);(case c5=>k_is);(case k5=>k_is)
    (case a6=>k_is);(case l6=>k_is);(case c6=>k_is);(case k6=>k_is)
    (case a7=>k_is);(case l7=>k_is);(case c7=>k_is);(case k7=>k_is)
    (case a8=>k_is);(case l8=>k_is);(case c8=>k_is);(case k8=>k_is)
    (case a9=>k_is);(case l9=>k_is);(case c9=>k_is);(case k9=>k_is)
    (case a10=>k_is);(case l10=>k_is);(case c10=>k_is);(case k10=>k_is)
    (case a11=>k_is);(case l11=>k_is);(case c11=>k_is);(case k11=>k_is)
    (case a12=>k_is);(case l12=>k_is);(case c12=>k_is);(case k12=>k_is)
    (case a13=>k_is);(case l13=>k_is);(case c13=>k_is);(case k13=>k_is)
    (case a14=>k_is);(case l14=>k_is);(case c14=>k_is);(case k14=>k_is)
    (case a15=>k_is);(case l15=>k_is);(case c15=>k_is);(case k15=>k_is)
    (case a16=>k_is);(case l16=>k_is);(case c16=>k_is);(case k16=>k_is)
    (case a17=>k_is);(case l17=>k_is);(case c17=>k_is);(case k17=>k_is)
    (case a18=>k_is);(case l18=>k_is);(case c18=>k_is);(case k18=>k_is)
    (case a19=>k_is);(case l19=>k_is);(case c19=>k_is);(case k19=>k_is)
    (case a20=>k_is);(case l20=>k_is);(case c20=>k_is);(case k20=>k_is)
    (case a21=>k_is);(case l21=>k_is);(case c21=>k_is);(case k21=>k_is)
    (case a22=>k_is);(case l22=>k_is);(case c22=>k_is);(case k22=>k_is)
    (case a23=>k_is);(case l23=>k_is);(case c23=>k_is);(case k23=>k_is)
    (case a24=>k_is);(case l24=>k_is);(case c24=>k_is);(case k24=>k_is)
    (case a25=>k_is);(case l25=>k_is);(case c25=>k_is);(case k25=>k_is)
    (case a26=>k_is);(case l26=>k_is);(case c26=>k_is);(case k26=>k_is)
    (case a27=>k_is);(case l27=>k_is);(case c27=>k_is);(case k27=>k_is)
    (case a28=>k_is);(case l28=>k_is);(case c28=>k_is);(case k28=>k_is)
    (case a29=>k_is);(case l29=>k_is);(case c29=>k_is);(case k29=>k_is)
    (case a30=>k_is);(case l30=>k_is);(case c30=>k_is);(case k30=>k_is)
    (case a31=>k_is);(case l31=>k_is);(case c31=>k_is);(case k31=>k_is)
    (case a32=>k_is);(case l32=>k_is);(case c32=>k_is);(case k32=>k_is)
    (case a33=>k_is);(case l33=>k_is);(case c33=>k_is);(case k33=>k_is)
    (case a34=>k_is);(case l34=>k_is);(case c34=>k_is);(case k34=>k_is)
    (case a35=>k_is);(case l35=>k_is);(case c35=>k_is);(case k35=>k_is)
    (case a36=>k_is);(case l36=>k_is);(case c36=>k_is);(case k36=>k_is)
    (case a37=>k_is);(case l37=>k_is);(case c37=>k_is);(case k37=>k_is)
    (case a38=>k_is);(case l38=>k_is);(case c38=>k_is);(case k38=>k_is)
    (case a39=>k_is);(case l39=>k_is);(case c39=>k_is);(case k39=>k_is)
    (case a40=>k_is);(case l40=>k_is);(case c40=>k_is);(case k40=>k_is)
    (case a41=>k_is);(case l41=>k_is);(case c41=>k_is);(case k41=>k_is)
    (case a42=>k_is);(case l42=>k_is);(case c42=>k_is);(case k42=>k_is)
    (case a43=>k_is);(case l43=>k_is);(case c43=>k_is);(case k43=>k_is)
    (case a44=>k_is);(case l44=>k_is);(case c44=>k_is);(case k44=>k_is)
    (case a45=>k_is);(case l45=>k_is);(case c45=>k_is);(case k45=>k_is)
    (case a46=>k_is);(case l46=>k_is);(case c46=>k_is);(case k46=>k_is)
    (case a47=>k_is);(case l47=>k_is);(case c47=>k_is);(case k47=>k_is)
    (case z1=>k_is)
    (case z2=>k_is)
    (case z3=>k_is)
    (case z4=>k_is)
    (case z5=>k_is)
    (case z6=>k_is)
    (case z7=>k_is)
    (case z8=>k_is)
    (case z9=>k_is)
    (case z10=>k_is)
    (case z11=>k_is)
    (case z12=>k_is)
    (case z13=>k_is)
    (case z14=>k_is)
    (case z15=>k_is)
    (case z16=>k_is)
    (case z17=>k_is)
    (case z18=>k_is)
    (case z19=>k_is)
    (case z20=>k_is)
    (case z21=>k_is)
#print axioms PySem.Challenge.cw_roundwords_k46_lost_shown_holds
end
