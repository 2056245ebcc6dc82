import PyProof.Rows.All
import Wide.All
import OpenK.AllK
import Wide.FinOn
import Lean
import PyProof.EqAt
import PyProof.EqKinds
import PyProof.TupleCall
import KE.KUnpack
import PyProof.ListRange
import PyProof.TupleOfGen
import PyProof.NeKinds
import KE.KRevIter
import PyProof.FactsAll.range_2
import KE.KTryMore
import PyProof.IsRules
import PyProof.IsInstanceH
import PyProof.ReprRoads
import PyProof.CallStr
import PySem.Challenge.RW_roundwords_k26_best_wide_papers
section
-- text: PpList
set_option Elab.async false
set_option linter.all false
set_option maxRecDepth 100000
namespace L2
open PySem PySem.Spec PyProof.Rows
noncomputable abbrev Key:=Sum Int Str
noncomputable def ydW:Key→Value→Bool
  | .inl k,v=>Value.isInt k v
  | .inr x,v=>Value.isStrOf x v
noncomputable def keyH (w:World):Key→Int
  | .inl k=>hashInt k
  | .inr x=>hashStr w x
theorem zaB:∀ {k:Key} {v:Value},ydW k v=true→(∃i t,k=Sum.inl i∧v=Value.int i t)∨(∃x t,k=Sum.inr x∧v=Value.str x t)
  | .inl i,v,h=>by
    obtain ⟨t,e⟩:=Value.isInt_shape (k:=i) (v:=v) h
    exact .inl ⟨i,t,rfl,e⟩
  | .inr x,v,h=>by
    obtain ⟨t,e⟩:=Value.isStrOf_shape (x:=x) (v:=v) h
    exact .inr ⟨x,t,rfl,e⟩
theorem yem (i:Int) (t:Tok):ydW (.inl i) (.int i t)=true:=by simp [ydW,Value.isInt]
theorem zew (x:Str) (t:Tok):ydW (.inr x) (.str x t)=true:=by simp [ydW,Value.isStrOf]
theorem zfZ (a b:Int):decide ((Sum.inl a:Key)=Sum.inl b)=(a==b):=by
  by_cases e:a=b
  · subst e;simp
  · have h:¬ (Sum.inl a:Key)=Sum.inl b:=fun q=>e (Sum.inl.inj q)
    rw [decide_eq_false h]
    exact (beq_eq_false_iff_ne.mpr e).symm
theorem yfY (a b:Str):decide ((Sum.inr a:Key)=Sum.inr b)=decide (a=b):=by
  by_cases e:a=b
  · subst e;simp
  · have h:¬ (Sum.inr a:Key)=Sum.inr b:=fun q=>e (Sum.inr.inj q)
    rw [decide_eq_false h,decide_eq_false e]
theorem zf1 (a:Int) (b:Str):decide ((Sum.inl a:Key)=Sum.inr b)=false:=decide_eq_false (fun q=>nomatch q)
theorem zfM (a:Str) (b:Int):decide ((Sum.inr a:Key)=Sum.inl b)=false:=decide_eq_false (fun q=>nomatch q)
noncomputable def zaH (prog:Program) (w:World):PySem.KeyKind prog w Key where
  is:=ydW
  hash:=keyH w
  inj:=fun v a b ha hb=>by
    rcases zaB ha with ⟨i,t,rfl,rfl⟩ | ⟨x,t,rfl,rfl⟩
    · rcases zaB hb with ⟨j,u,rfl,e⟩ | ⟨y,u,rfl,e⟩
      · injection e with e1 _;rw [e1]
      · exact nomatch e
    · rcases zaB hb with ⟨j,u,rfl,e⟩ | ⟨y,u,rfl,e⟩
      · exact nomatch e
      · injection e with e1 _;rw [e1]
  byValue:=fun k v h=>by
    rcases zaB h with ⟨i,t,rfl,rfl⟩ | ⟨x,t,rfl,rfl⟩ <;> rfl
  pyHash:=fun hv h=>by
    rcases zaB hv with ⟨i,t,rfl,rfl⟩ | ⟨x,t,rfl,rfl⟩
    · exact wpAny_pyHash_int h
    · exact wpAny_pyHash_str h
  eqBool:=fun hu hv h=>by
    rcases zaB hu with ⟨i,t,rfl,rfl⟩ | ⟨x,t,rfl,rfl⟩
    · rcases zaB hv with ⟨j,u,rfl,rfl⟩ | ⟨y,u,rfl,rfl⟩
      · rw [zfZ] at h;exact wpAny_eqBool_int h
      · rw [zf1] at h;exact SeqAt.EqAt.int_str i t y u _ _ _ _ h
    · rcases zaB hv with ⟨j,u,rfl,rfl⟩ | ⟨y,u,rfl,rfl⟩
      · rw [zfM] at h;exact SeqAt.EqAt.str_int x t j u _ _ _ _ h
      · rw [yfY] at h;exact wpAny_eqBool_str h
  «strs»:=fun k x t v h=>by
    rcases zaB h with ⟨i,u,rfl,e⟩ | ⟨y,u,rfl,e⟩
    · exact nomatch e
    · injection e with e1 _
      subst e1
      cases v <;> rfl
theorem zds (prog:Program) (w:World) (i:Int) (t:Tok):(zaH prog w).is (.inl i) (.int i t)=true:=yem i t
theorem ydv (prog:Program) (w:World) (x:Str) (t:Tok):(zaH prog w).is (.inr x) (.str x t)=true:=zew x t
end L2
namespace L2
open PySem PySem.Spec PyProof.Rows
inductive V where
  | non|bl (b:Bool)|int (i:Int)|str (x:Str)|byt (b:Array UInt8)|flt (b:UInt64)|ref (a:Addr)|ty (n:String)
  deriving DecidableEq
noncomputable def RelV:V→Value→Prop
  | .non,u=>u=Value.none
  | .bl b,u=>u=Value.bool b
  | .int i,u=>∃t,u=Value.int i t
  | .str x,u=>∃t,u=Value.str x t
  | .byt b,u=>∃t,u=Value.bytes b t
  | .flt b,u=>∃t,u=Value.float b t
  | .ref a,u=>u=Value.ref a
  | .ty n,u=>u=Value.type n
noncomputable abbrev Vals:List V→List Value→Prop:=Paired RelV
theorem Vals.length {xs:List V} {us:List Value} (r:Vals xs us):xs.length=us.length:=Paired.length r
theorem Vals.get:∀ {xs:List V} {us:List Value} {i:Nat} {x:V},Vals xs us→xs[i]?=some x→∃u,us[i]?=some u∧RelV x u
  | _,_,_,_,.nil,e=>by simp at e
  | _,_,0,_,.cons r _,e=>by simp at e;subst e;exact ⟨_,rfl,r⟩
  | _,_,i+1,x,.cons _ t,e=>by
    obtain ⟨u,h1,h2⟩:=Vals.get (i:=i) (x:=x) t (by simpa using e)
    exact ⟨u,by simpa using h1,h2⟩
theorem Vals.set {x:V} {u:Value} (r:RelV x u):∀ {xs:List V} {us:List Value} (i:Nat),Vals xs us→Vals (xs.set i x) (us.set i u)
  | _,_,_,.nil=>.nil
  | _,_,0,.cons _ t=>.cons r t
  | _,_,i+1,.cons q t=>.cons q (Vals.set r i t)
theorem Vals.append:∀ {xs ys:List V} {us ws:List Value},Vals xs us→Vals ys ws→Vals (xs++ys) (us++ws)
  | _,_,_,_,.nil,s=>s
  | _,_,_,_,.cons r t,s=>.cons r (Vals.append t s)
theorem Vals.take:∀ {xs:List V} {us:List Value} (n:Nat),Vals xs us→Vals (xs.take n) (us.take n)
  | _,_,0,_=>.nil
  | _,_,_+1,.nil=>.nil
  | _,_,n+1,.cons r t=>.cons r (Vals.take n t)
theorem Vals.drop:∀ {xs:List V} {us:List Value} (n:Nat),Vals xs us→Vals (xs.drop n) (us.drop n)
  | _,_,0,r=>r
  | _,_,_+1,.nil=>.nil
  | _,_,n+1,.cons _ t=>Vals.drop n t
noncomputable def RelO:Option V→Option Value→Prop
  | some v,some u=>RelV v u
  | none,none=>True
  | _,_=>False
noncomputable def KV {κ:Type}:List (κ×V)→List (κ×Value)→Prop:=Paired fun (p:κ×V) (q:κ×Value)=>p.1=q.1∧RelV p.2 q.2
noncomputable def kV:Key→V
  | .inl i=>.int i
  | .inr x=>.str x
inductive HO where
  | lst (xs:List V)
  | tup (xs:List V)
  | dK (kvs:List (Key×V))|dT (kvs:List (List Key×V))
  | set (S:Int→Bool) (n:Nat)
  | ins (C dx:Addr) (fs:List (Str×V))
  | own (x:Addr)
  | xd (fs:List (Str×V))
  | met (f x:Addr)
  | rng (lo hi:Int)
  | frz (o:Obj) (u:HO)
  | tbl (ps:Array Value)
  | ext (φ:Heap→Prop)
noncomputable abbrev Hp:=Addr→Option HO
noncomputable def upd (H:Hp) (a:Addr) (o:HO):Hp:=fun b=>if b=a then some o else H b
theorem yac {H:Hp} {a:Addr} {o:HO}:upd H a o a=some o:=by unfold upd;rw [if_pos rfl]
theorem yaf {H:Hp} {a b:Addr} {o:HO} (h:b≠a):upd H a o b=H b:=by unfold upd;rw [if_neg h]
theorem ydh {H:Hp} {a:Addr} {o u:HO}:upd (upd H a o) a u=upd H a u:=by
  funext b;unfold upd;split <;> rfl
theorem yae {H:Hp} {a b:Addr} {o:HO} (h:H a=some o) (h':H b=none):a≠b:=by
  intro e;subst e;rw [h] at h';cases h'
section
variable (P:Program) (w:World)
noncomputable def yaZ (H:Hp) (h:Heap) (a:Addr):HO→Prop
  | .lst xs=>xs.length≤sizeLine∧∃(its:List Value) (n:Nat),Vals xs its∧h.get? a=some { cls:=.type "list",data:=.seq its.toArray n }
  | .tup xs=>xs.length≤sizeLine∧∃its:List Value,Vals xs its∧IsTup h a its.toArray
  | .dK kvs=>kvs.length≤sizeLine∧(a==sysModules)=false∧∃vs,KV kvs vs∧h.DictOf (zaH P w) a vs
  | .dT kvs=>kvs.length≤sizeLine∧(a==sysModules)=false∧∃xs:List (List Key×Addr×Value),
      Paired (fun (p:List Key×V) (q:List Key×Addr×Value)=>p.1=q.1∧H q.2.1=some (.tup (p.1.map kV))∧RelV p.2 q.2.2) kvs xs∧
      ∃o es ep,h.get? a=some o∧o.ExactDict∧o.data = .dict es ep∧es.toList=xs.map (entryOfKey (tupleKind (zaH P w)))∧(xs.map (·.1)).Nodup
  | .set S n=>h.SetOf (intKind P w) a S n
  | .ins C dx fs=>H dx=some (.own a)∧fs.length≤1000∧dx≠a∧h.get? a=some (PySem.W.instObj C dx)∧
      ∃mA,h.Ns1 dx mA∧(∀f,RelO (fs.lookup f) (mA f))∧PySem.Within mA (fs.map (·.1))
  | .own _=>∃o,h.get? a=some o
  | .xd fs=>∃mA,h.Ns1 a mA∧∀f,RelO (fs.lookup f) (mA f)
  | .rng lo hi=>∃t u v,h.get? a=some { cls:=.type "range",data:=.fields #[.int lo t,.int hi u,.int 1 v] }
  | .frz o u=>h.get? a=some o∧yaZ H h a u
  | .tbl ps=>h.get? a=some { cls:=.none,data:=.fields ps }
  | .met f x=>h.get? a=some (PySem.W.methodObj (.ref f) (.ref x))
  | .ext φ=>φ h∧(∃o,h.get? a=some o)∧∀h1 h2:Heap,φ h1→(∀o,h1.get? a=some o→h2.get? a=some o)→φ h2
noncomputable def HOk (H:Hp) (h:Heap):Prop:=∀a o,H a=some o→yaZ P w H h a o
end
section
variable {P:Program} {w:World} {H H':Hp} {h h':Heap} {a:Addr} {o:HO}
theorem yaZ.lt (x:yaZ P w H h a o):a<h.objs.size:=by
  cases o with
  | lst xs=>obtain ⟨_,_,_,_,e⟩:=x;exact Heap.lt_size e
  | tup xs=>obtain ⟨_,_,_,p⟩:=x;exact p.lt
  | dK kvs=>obtain ⟨_,_,_,_,o,_,_,e,_⟩:=x;exact Heap.lt_size e
  | dT kvs=>obtain ⟨_,_,_,_,o,_,_,e,_⟩:=x;exact Heap.lt_size e
  | set S n=>obtain ⟨o,_,_,_,e,_⟩:=x;exact Heap.lt_size e
  | ins C dx fs=>obtain ⟨_,_,_,e,_⟩:=x;exact Heap.lt_size e
  | own y=>obtain ⟨_,e⟩:=x;exact Heap.lt_size e
  | xd fs=>obtain ⟨_,⟨_,_,_,e,_⟩,_⟩:=x;exact Heap.lt_size e
  | rng lo hi=>obtain ⟨_,_,_,e⟩:=x;exact Heap.lt_size e
  | frz ob u=>obtain ⟨e,_⟩:=x;exact Heap.lt_size e
  | tbl ps=>exact Heap.lt_size (show h.get? a=some _ from x)
  | met f y=>exact Heap.lt_size (show h.get? a=some _ from x)
  | ext φ=>obtain ⟨_,⟨_,e⟩,_⟩:=x;exact Heap.lt_size e
theorem Paired.mapP {α β:Type} {F G:α→β→Prop}:∀ {l₁:List α} {l₂:List β},Paired F l₁ l₂→(∀a b,F a b→G a b)→Paired G l₁ l₂
  | _,_,.nil,_=>.nil
  | _,_,.cons r t,f=>.cons (f _ _ r) (Paired.mapP t f)
theorem yaZ.stay (x:yaZ P w H h a o) (k:∀b u,(b=a∨H b=some (.own a))→h.get? b=some u→h'.get? b=some u)
    (ho:∀b,H b=some (.own a)→H' b=some (.own a)) (ht:∀b xs,H b=some (.tup xs)→H' b=some (.tup xs)):yaZ P w H' h' a o:=by
  induction o with
  | lst xs=>obtain ⟨z,its,n,r,e⟩:=x;exact ⟨z,its,n,r,k _ _ (.inl rfl) e⟩
  | tup xs=>obtain ⟨z,its,r,ob,e,c⟩:=x;exact ⟨z,its,r,ob,k _ _ (.inl rfl) e,c⟩
  | dK kvs=>obtain ⟨z,y,vs,r,ob,es,ep,e,c⟩:=x;exact ⟨z,y,vs,r,ob,es,ep,k _ _ (.inl rfl) e,c⟩
  | dT kvs =>
    obtain ⟨z,y,xs,r,ob,es,ep,e,c⟩:=x
    exact ⟨z,y,xs,Paired.mapP r fun p q z=>⟨z.1,ht _ _ z.2.1,z.2.2⟩,ob,es,ep,k _ _ (.inl rfl) e,c⟩
  | set S n=>obtain ⟨ob,es,ep,t,e,c⟩:=x;exact ⟨ob,es,ep,t,k _ _ (.inl rfl) e,c⟩
  | ins C dx fs =>
    obtain ⟨d,z,ne,e,mA,⟨od,es,ep,e2,c⟩,r⟩:=x
    exact ⟨ho _ d,z,ne,k _ _ (.inl rfl) e,mA,⟨od,es,ep,k _ _ (.inr d) e2,c⟩,r⟩
  | own y=>obtain ⟨ob,e⟩:=x;exact ⟨ob,k _ _ (.inl rfl) e⟩
  | xd fs=>obtain ⟨mA,⟨od,es,ep,e,c⟩,r⟩:=x;exact ⟨mA,⟨od,es,ep,k _ _ (.inl rfl) e,c⟩,r⟩
  | rng lo hi=>obtain ⟨t,u,v,e⟩:=x;exact ⟨t,u,v,k _ _ (.inl rfl) e⟩
  | frz ob u ih=>obtain ⟨e,q⟩:=x;exact ⟨k _ _ (.inl rfl) e,ih q⟩
  | tbl ps =>
    have e:h.get? a=some { cls:=.none,data:=.fields ps }:=x
    show h'.get? a=some { cls:=.none,data:=.fields ps }
    exact k a _ (.inl rfl) e
  | met f y =>
    have e:h.get? a=some (PySem.W.methodObj (.ref f) (.ref y)):=x
    show h'.get? a=some (PySem.W.methodObj (.ref f) (.ref y))
    exact k a _ (.inl rfl) e
  | ext φ=>obtain ⟨p,⟨o,e⟩,st⟩:=x;exact ⟨st _ _ p fun o q=>k _ _ (.inl rfl) q,⟨o,k _ _ (.inl rfl) e⟩,st⟩
theorem HOk.lt (x:HOk P w H h) (e:H a=some o):a<h.objs.size:=(x a o e).lt
theorem HOk.fresh (x:HOk P w H h) (e:h.objs.size≤a):H a=none:=by
  cases q:H a with
  | none=>rfl
  | some u=>exact absurd (Nat.lt_of_lt_of_le (x.lt q) e) (Nat.lt_irrefl _)
theorem HOk.kept (x:HOk P w H h) (k:∀b u,h.get? b=some u→h'.get? b=some u):HOk P w H h':=fun a o e =>
  (x a o e).stay (fun b u _ q=>k b u q) (fun _ q=>q) fun _ _ q=>q
theorem HOk.laid (x:HOk P w H h) (k:∀b u,h.get? b=some u→h'.get? b=some u) (hp:h.objs.size≤a) (new:yaZ P w (upd H a o) h' a o):HOk P w (upd H a o) h':=fun b u e=>by
  have hn:=x.fresh hp
  by_cases hb:b=a
  · subst hb;rw [yac] at e;cases e;exact new
  · rw [yaf hb] at e
    exact (x b u e).stay (fun c v _ q=>k c v q) (fun c q=>by rw [yaf (yae q hn)];exact q) fun c xs q=>by rw [yaf (yae q hn)];exact q
end
noncomputable def Rd (H:Hp) (a:Addr) (u:HO):Prop:=H a=some u∨∃o,H a=some (.frz o u)
theorem Rd.ok {P:Program} {w:World} {H:Hp} {h:Heap} {a:Addr} {u:HO} (r:Rd H a u) (x:HOk P w H h):yaZ P w H h a u:=by
  rcases r with r | ⟨o,r⟩
  · exact x a u r
  · obtain ⟨_,q⟩:=x a _ r
    exact q
noncomputable def Mut:Option HO→Prop
  | some (.lst _)=>True
  | some (.dK _)=>True
  | some (.dT _)=>True
  | some (.set _ _)=>True
  | some (.ins _ _ _)=>True
  | some (.ext _)=>True
  | _=>False
section
variable {P:Program} {w:World} {H:Hp} {h h':Heap} {x e:Addr} {o':HO}
theorem HOk.write (ok:HOk P w H h) (mu:Mut (H x)) (he:e=x∨H e=some (.own x)) (k:∀b u,b≠e→h.get? b=some u→h'.get? b=some u) (heo:∃u,h'.get? e=some u)
    (new:yaZ P w (upd H x o') h' x o'):HOk P w (upd H x o') h':=fun b u q=>by
  have nown:∀c y,H c=some (.own y)→c≠x:=fun c y r z=>by subst z;rw [r] at mu;exact mu
  have ntup:∀c xs,H c=some (.tup xs)→c≠x:=fun c xs r z=>by subst z;rw [r] at mu;exact mu
  by_cases hb:b=x
  · subst hb;rw [yac] at q;cases q;exact new
  · rw [yaf hb] at q
    by_cases hbe:b=e
    · have q':H b=some (.own x):=by
        rcases he with z|z
        · exact absurd (hbe.trans z) hb
        · rw [hbe];exact z
      rw [q] at q';cases q'
      obtain ⟨v,hv⟩:=heo
      exact ⟨v,by rw [hbe];exact hv⟩
    · refine (ok b u q).stay (fun c v hc r=>k c v ?_ r) (fun c r=>by rw [yaf (nown c b r)];exact r) fun c xs r=>by rw [yaf (ntup c xs r)];exact r
      rcases hc with rfl|hc
      · exact hbe
      · rintro rfl
        rcases he with z|z
        · exact nown c b hc z
        · rw [hc] at z;cases z;exact hb rfl
end
structure Un (fs ex:List Addr) (H H':Hp) (h h':Heap):Prop where
  keep:∀b o,h.get? b=some o→H b=none→b∉fs→b∉ex→h'.get? b=some o
  slot:∀b o,h.get? b=some o→H b=none→b∈fs→b∉ex→∃sl,h'.get? b=some { o with slots:=sl }
  free:∀b o,h.get? b=some o→H b=none→b∉ex→H' b=none
  there:∀b o,h.get? b=some o→b∉ex→∃o',h'.get? b=some o'
  tups:∀b xs,H b=some (.tup xs)→H' b=some (.tup xs)
  frzs:∀b o u,H b=some (.frz o u)→H' b=some (.frz o u)
  tbls:∀b ps,H b=some (.tbl ps)→∃more,H' b=some (.tbl (ps++more))
section
variable {fs fs' ex ex':List Addr} {H H1 H2:Hp} {h h1 h2 h':Heap} {a x e:Addr} {o:HO}
theorem Un.any (u:Un fs ex H H1 h h1) {b:Addr} {ob:Obj} (q:h.get? b=some ob) (n:H b=none) (hx:b∉ex):∃sl,h1.get? b=some { ob with slots:=sl }:=by
  by_cases hb:b∈fs
  · exact u.slot b ob q n hb hx
  · exact ⟨ob.slots,u.keep b ob q n hb hx⟩
theorem Un.kept (k:∀b u,h.get? b=some u→h'.get? b=some u):Un fs ex H H h h' :=
  ⟨fun b ob q _ _ _=>k b ob q,fun b ob q _ _ _=>⟨ob.slots,k b ob q⟩,fun _ _ _ n _=>n,fun b ob q _=>⟨ob,k b ob q⟩,fun _ _ q=>q,fun _ _ _ q=>q,fun _ ps q=>⟨#[],by rw [q];simp⟩⟩
theorem Un.refl:Un fs ex H H h h:=Un.kept fun _ _ q=>q
theorem Un.laid (k:∀b u,h.get? b=some u→h'.get? b=some u) (hp:h.objs.size≤a) (hn:H a=none):Un fs ex H (upd H a o) h h' where
  keep:=fun b u q _ _ _=>k b u q
  slot:=fun b u q _ _ _=>⟨u.slots,k b u q⟩
  free:=fun b u q n _=>by rw [yaf (Nat.ne_of_lt (Nat.lt_of_lt_of_le (Heap.lt_size q) hp))];exact n
  there:=fun b u q _=>⟨u,k b u q⟩
  tups:=fun b xs q=>by rw [yaf (yae q hn)];exact q
  frzs:=fun b u xs q=>by rw [yaf (yae q hn)];exact q
  tbls:=fun b ps q=>⟨#[],by rw [yaf (yae q hn),q];simp⟩
theorem Un.write (mu:Mut (H x)) (he:e=x∨H e=some (.own x)) (k:∀b u,b≠e→h.get? b=some u→h'.get? b=some u) (heo:∃u,h'.get? e=some u):Un fs ex H (upd H x o) h h':=by
  have hx:∀b,H b=none→b≠x:=fun b n z=>by subst z;rw [n] at mu;exact mu
  have hb:∀b,H b=none→b≠e:=fun b n z=>by
    subst z
    rcases he with r|r
    · exact hx b n r
    · rw [n] at r;cases r
  have hm:∀b u,H b=some u→¬ Mut (some u)→b≠x:=fun b u q nm z=>by subst z;rw [q] at mu;exact nm mu
  refine ⟨fun b u q n _ _=>k b u (hb b n) q,fun b u q n _ _=>⟨u.slots,k b u (hb b n) q⟩,fun b u q n _=>by rw [yaf (hx b n)];exact n,fun b u q _=>?_,
    fun b xs q=>by rw [yaf (hm b _ q fun z=>z)];exact q,fun b u xs q=>by rw [yaf (hm b _ q fun z=>z)];exact q,fun b ps q=>⟨#[],by rw [yaf (hm b _ q fun z=>z),q];simp⟩⟩
  by_cases hbe:b=e
  · subst hbe;exact heo
  · exact ⟨u,k b u hbe q⟩
end
noncomputable def trk (h:Heap) (H:Hp):List Addr:=(List.range h.objs.size).filter fun a=>(H a).isSome
noncomputable def hidT (h:Heap) (H:Hp):Heap:=PySem.W.hideAll h (trk h H)
theorem yeq (h:Heap) (H:Hp):(hidT h H).objs.size=h.objs.size:=PySem.W.hideAll_size _ _
theorem ye6 {h:Heap} {H:Hp} {b:Addr} {o:Obj} (e:h.get? b=some o) (n:H b=none):(hidT h H).get? b=some o :=
  PySem.W.hideAll_get _ e fun hm=>by
    have q:(H b).isSome=true:=(List.mem_filter.mp hm).2
    rw [n] at q;simp at q
theorem zfz {h:Heap} {H:Hp} {b:Addr} {o:Obj} (e:(hidT h H).get? b=some o):h.get? b=some o∧H b=none:=by
  have e':h.get? b=some o:=PySem.W.of_hideAll (trk h H) e
  refine ⟨e',?_⟩
  cases q:H b with
  | none=>rfl
  | some x =>
    have hm:b∈trk h H:=List.mem_filter.mpr ⟨List.mem_range.mpr (Heap.lt_size e'),by simp [q]⟩
    have z:(hidT h H).get? b=none:=PySem.W.hideAll_none (trk h H) hm
    rw [z] at e;cases e
end L2
namespace L2
open PySem PySem.Spec PyProof.Rows
structure Mod (K:PySem.W.Frag) (mg:Str→Option Value) (base:Heap):Prop where
  kin:K.In base
  glob:base.Ns mainGlobals mg
  blt:∃mb,base.Ns builtinsNs mb∧∀x:Str,x≠"__name__"→mb x=bootBuiltins x
  nolimit:base.NoLimit
structure Cx where
  prog:Program
  w:World
  K:PySem.W.Frag
  mg:Str→Option Value
  base:Heap
  A:Around
  N:List Str
  s₀:Shared
  H₀:Hp
  env:Env
  outer:List Env
  stack:List Env
  ex:List Addr
  fn:Str→Bool
  calm:Bool
  pn:List (Addr×Obj)
  xe:Value→Shared→Prop
noncomputable def frs (l:List Env):List Addr:=l.filterMap (·.frame)
noncomputable abbrev Cx.fs (X:Cx):List Addr:=frs X.outer
noncomputable def Vis (sc:Scope) (x:Str):Prop:=sc.names.lookup x=some .local∨sc.names.lookup x=some .cell∨sc.names.lookup x=some .free
noncomputable def Loc (sc:Scope) (x:Str):Prop:=sc.names.lookup x=some .local∨sc.names.lookup x=some .cell
noncomputable def Look (env:Env) (h:Heap) (m:Str→Option Value) (x:Str) (u:Value):Prop :=
  (env.kindOf x=some .local∧m x=some u)∨((env.kindOf x=some .cell∨env.kindOf x=some .free)∧∃c,env.cells.lookup x=some c∧h.IsCell c (some u))
structure Cx.Ok (X:Cx):Prop where
  mod:Mod X.K X.mg X.base
  kind:X.env.scope.kind = .function
  glob:X.env.globals=mainGlobals
  blt:X.env.builtins=builtinsNs
  above:X.s₀.heap.objs.size≤X.env.locals
  inj:∀x y c,X.env.cells.lookup x=some c→X.env.cells.lookup y=some c→x=y
  has:∀x,(X.env.kindOf x=some .cell∨X.env.kindOf x=some .free)→∃c,X.env.cells.lookup x=some c
  cab:∀x c,X.fn x=true→X.env.cells.lookup x=some c→X.s₀.heap.objs.size≤c
  hd:X.calm=true→X.A.handled=none
  frames:X.A.frames=some X.stack
  stk:X.stack=X.outer∨(X.stack=X.env::X.outer∧X.env.frame=some X.env.locals)
  exf:∀b∈X.ex,b≠X.env.locals∧∀x c,X.env.cells.lookup x=some c→c≠b
  bs:∀b o,X.base.get? b=some o→X.s₀.heap.get? b=some o∧X.H₀ b=none
  bsz:X.base.objs.size≤X.s₀.heap.objs.size
  noex:∀b o,X.base.get? b=some o→b∉X.ex
  exfs:∀b∈X.ex,b∉X.fs
  funs:X.s₀.heap.FunFrames X.base X.outer
  frf:∀b∈X.fs,X.H₀ b=none
structure Inv (X:Cx) (pins:List (Addr×Obj)) (σ:List (Option V)) (H:Hp) (s:Shared):Prop where
  ok:X.Ok
  os:s.os=X.s₀.os
  bare:AllBare s.gens
  base:Un X.fs X.ex X.H₀ H X.s₀.heap s.heap
  loc:∃m,s.heap.Ns X.env.locals m∧∀(i:Nat) (x:Str) (v:V),X.N[i]?=some x→σ[i]?=some (some v)→Vis X.env.scope x→∃u,RelV v u∧Look X.env s.heap m x u
  cell:∀x c,X.env.cells.lookup x=some c→∃v,s.heap.IsCell c v
  free:H X.env.locals=none
  freeC:∀x c,X.env.cells.lookup x=some c→H c=none
  pin:∀p∈X.pn++pins,s.heap.get? p.1=some p.2∧H p.1=none∧p.1≠X.env.locals∧p.1∉X.fs∧∀v,p.2.data≠.cell v
  hok:HOk X.prog X.w H s.heap
  len:σ.length=X.N.length
section
variable {X:Cx} {pins:List (Addr×Obj)} {σ:List (Option V)} {H H':Hp} {s:Shared} {h':Heap}
theorem Cx.Ok.nofr (ok:X.Ok) {b:Addr} {o:Obj} (e:X.base.get? b=some o):b∉X.fs:=fun hb=>by
  have:=(ok.funs.mem hb).1
  rw [e] at this;cases this
theorem Inv.bs (I:Inv X pins σ H s):∀b o,X.base.get? b=some o→s.heap.get? b=some o∧H b=none:=fun b o e =>
  ⟨I.base.keep b o (I.ok.bs b o e).1 (I.ok.bs b o e).2 (I.ok.nofr e) (I.ok.noex b o e),I.base.free b o (I.ok.bs b o e).1 (I.ok.bs b o e).2 (I.ok.noex b o e)⟩
theorem Inv.bk (I:Inv X pins σ H s):∀b o,X.base.get? b=some o→s.heap.get? b=some o:=fun b o e=>(I.bs b o e).1
theorem Inv.mod (I:Inv X pins σ H s):Mod X.K X.mg X.base:=I.ok.mod
theorem Inv.kIn (I:Inv X pins σ H s):X.K.In s.heap:=I.ok.mod.kin.keeps I.bk
theorem Inv.lt (I:Inv X pins σ H s):X.env.locals<s.heap.objs.size:=let ⟨_,hn,_⟩:=I.loc;hn.lt
theorem Inv.sz (I:Inv X pins σ H s):X.s₀.heap.objs.size≤s.heap.objs.size:=Nat.le_trans I.ok.above (Nat.le_of_lt I.lt)
theorem Inv.nofs (I:Inv X pins σ H s) {a:Addr} (h:s.heap.objs.size≤a):a∉X.fs:=fun hb=>by
  obtain ⟨_,o,ho,_⟩:=I.ok.funs.mem hb
  exact absurd (Nat.lt_of_lt_of_le (Heap.lt_size ho) (Nat.le_trans I.sz h)) (Nat.lt_irrefl _)
theorem Inv.cne (I:Inv X pins σ H s):∀x c,X.env.cells.lookup x=some c→c≠X.env.locals:=fun x c e z=>by
  obtain ⟨v,o,ho,hd⟩:=I.cell x c e
  obtain ⟨m,⟨o',es,ep,ho',hd',_⟩,_⟩:=I.loc
  rw [z,ho'] at ho;cases ho;rw [hd'] at hd;cases hd
theorem Inv.funs (I:Inv X pins σ H s):s.heap.FunFrames X.base X.outer:=by
  have all:∀(l:List Env),(∀b∈frs l,b∈X.fs)→X.s₀.heap.FunFrames X.base l→s.heap.FunFrames X.base l:=by
    intro l
    induction l with
    | nil=>intro _ _;trivial
    | cons env r ih =>
      intro hs hl
      obtain ⟨hk,⟨L,o,hf,hn,ho,hd⟩,hr⟩:=hl
      have hL:L∈X.fs:=hs L (by unfold frs;rw [List.filterMap_cons,hf];exact List.mem_cons_self)
      obtain ⟨sl,e⟩:=I.base.slot L o ho (I.ok.frf L hL) hL fun z=>I.ok.exfs L z hL
      exact ⟨hk,⟨L,_,hf,hn,e,hd⟩,ih (fun b hb=>hs b (by unfold frs;rw [List.filterMap_cons,hf];exact List.mem_cons_of_mem _ hb)) hr⟩
  exact all X.outer (fun _ hb=>hb) I.ok.funs
theorem Inv.stack (I:Inv X pins σ H s):s.heap.FunFrames X.base X.stack:=by
  rcases I.ok.stk with e | ⟨e,hf⟩
  · rw [e];exact I.funs
  · rw [e]
    obtain ⟨m,hn,_⟩:=I.loc
    refine .cons (by rw [I.ok.kind];decide) hf hn ?_ I.funs
    exact Heap.get?_none_of_le (Nat.le_trans I.ok.bsz I.ok.above)
theorem Inv.stkSub (I:Inv X pins σ H s):∀b∈frs X.stack,b∈X.env.locals::X.fs:=fun b hb=>by
  rcases I.ok.stk with e | ⟨e,hf⟩
  · rw [e] at hb;exact List.mem_cons_of_mem _ hb
  · rw [e] at hb
    unfold frs at hb
    rw [List.filterMap_cons,hf] at hb
    exact hb
theorem Inv.stkFree (I:Inv X pins σ H s):∀b∈frs X.stack,H b=none:=fun b hb=>by
  rcases List.mem_cons.mp (I.stkSub b hb) with e|hb
  · rw [e];exact I.free
  · obtain ⟨_,o,ho,_⟩:=I.ok.funs.mem hb
    exact I.base.free b o ho (I.ok.frf b hb) fun z=>I.ok.exfs b z hb
theorem Inv.step {g':Array GenState} {t':Nat} {d':Drawn} {ch:List Addr} (I:Inv X pins σ H s)
    (hch:∀b∈ch,(b∈X.ex∨X.s₀.heap.objs.size≤b)∧b≠X.env.locals∧(∀x c,X.env.cells.lookup x=some c→c≠b)∧∀p∈X.pn++pins,p.1≠b)
    (keep:∀b o,b≠X.env.locals→b∉X.fs→b∉ch→s.heap.get? b=some o→H b=none→h'.get? b=some o)
    (slot:∀b o,b≠X.env.locals→b∈X.fs→b∉ch→s.heap.get? b=some o→H b=none→∃sl,h'.get? b=some { o with slots:=sl }) (free:∀b o,b∉ch→s.heap.get? b=some o→H b=none→H' b=none)
    (there:∀b o,b∉ch→s.heap.get? b=some o→∃o',h'.get? b=some o')
    (tups:∀b xs,H b=some (.tup xs)→H' b=some (.tup xs)) (frzs:∀b o u,H b=some (.frz o u)→H' b=some (.frz o u)) (tbls:∀b ps,H b=some (.tbl ps)→∃more,H' b=some (.tbl (ps++more)))
    (ns:∀m,s.heap.Ns X.env.locals m→h'.Ns X.env.locals m) (hok:HOk X.prog X.w H' h') (hg:AllBare g') :
    Inv X pins σ H' { s with heap:=h',gens:=g',drawn:=d',toks:=t' }:=by
  have neL:∀b o,X.s₀.heap.get? b=some o→b≠X.env.locals:=fun b o e=>Nat.ne_of_lt (Nat.lt_of_lt_of_le (Heap.lt_size e) I.ok.above)
  have neC:∀b o,X.s₀.heap.get? b=some o→b∉X.ex→b∉ch:=fun b o e hx hb=>by
    rcases (hch b hb).1 with z|z
    · exact hx z
    · exact absurd (Nat.lt_of_lt_of_le (Heap.lt_size e) z) (Nat.lt_irrefl _)
  have cellK:∀x c,X.env.cells.lookup x=some c→∀v,s.heap.IsCell c v→h'.IsCell c v:=fun x c e v ⟨o,ho,hd⟩=>by
    have nch:c∉ch:=fun z=>(hch c z).2.2.1 x c e rfl
    by_cases hc:c∈X.fs
    · obtain ⟨sl,q⟩:=slot c o (I.cne x c e) hc nch ho (I.freeC x c e)
      exact ⟨_,q,hd⟩
    · exact ⟨o,keep c o (I.cne x c e) hc nch ho (I.freeC x c e),hd⟩
  refine ⟨I.ok,I.os,hg,⟨fun b o e n hb hx=>?_,fun b o e n hb hx=>?_,fun b o e n hx=>?_,fun b o e hx=>?_,fun b xs e=>tups b xs (I.base.tups b xs e),fun b o xs e=>frzs b o xs (I.base.frzs b o xs e),fun b ps e=>?_⟩,?_,fun x c e=>?_,?_,fun x c e=>?_,fun p hp=>?_,hok,I.len⟩
  · exact keep b o (neL b o e) hb (neC b o e hx) (I.base.keep b o e n hb hx) (I.base.free b o e n hx)
  · obtain ⟨sl,e1⟩:=I.base.slot b o e n hb hx
    obtain ⟨sl',e2⟩:=slot b _ (neL b o e) hb (neC b o e hx) e1 (I.base.free b o e n hx)
    exact ⟨sl',e2⟩
  · obtain ⟨o',e1⟩:=I.base.there b o e hx
    exact free b o' (neC b o e hx) e1 (I.base.free b o e n hx)
  · obtain ⟨o',e1⟩:=I.base.there b o e hx
    exact there b o' (neC b o e hx) e1
  · obtain ⟨m1,e1⟩:=I.base.tbls b ps e
    obtain ⟨m2,e2⟩:=tbls b _ e1
    exact ⟨m1++m2,by rw [e2,Array.append_assoc]⟩
  · obtain ⟨m,hn,hl⟩:=I.loc
    refine ⟨m,ns m hn,fun i x v e1 e2 e3=>?_⟩
    obtain ⟨u,r,l⟩:=hl i x v e1 e2 e3
    refine ⟨u,r,?_⟩
    rcases l with l | ⟨k,c,e,z⟩
    · exact .inl l
    · exact .inr ⟨k,c,e,cellK x c e _ z⟩
  · obtain ⟨v,z⟩:=I.cell x c e
    exact ⟨v,cellK x c e v z⟩
  · obtain ⟨m,⟨o,_,_,ho,_⟩,_⟩:=I.loc
    exact free _ o (fun z=>(hch _ z).2.1 rfl) ho I.free
  · obtain ⟨v,o,ho,hd⟩:=I.cell x c e
    exact free c o (fun z=>(hch c z).2.2.1 x c e rfl) ho (I.freeC x c e)
  · obtain ⟨e,n,ne,nf,d⟩:=I.pin p hp
    have nch:p.1∉ch:=fun z=>(hch p.1 z).2.2.2 p hp rfl
    exact ⟨keep p.1 p.2 ne nf nch e n,free p.1 p.2 nch e n,ne,nf,d⟩
theorem Inv.un {t':Nat} (I:Inv X pins σ H s) (u:Un X.fs [] H H' s.heap h') (hok:HOk X.prog X.w H' h'):Inv X pins σ H' { s with heap:=h',toks:=t' }:=by
  obtain ⟨m,⟨o,es,ep,ho,r⟩,_⟩:=id I.loc
  obtain ⟨sl,hL⟩:=u.any ho I.free (by simp)
  exact I.step (g':=s.gens) (d':=s.drawn) (ch:=[]) (fun _ z=>nomatch z) (fun b o _ hb _ e n=>u.keep b o e n hb (by simp)) (fun b o _ hb _ e n=>u.slot b o e n hb (by simp)) (fun b o _ e n=>u.free b o e n (by simp)) (fun b o _ e=>u.there b o e (by simp)) u.tups u.frzs u.tbls (fun m' hm=>by
    obtain ⟨o',es',ep',ho',r'⟩:=hm
    rw [ho] at ho';cases ho'
    exact ⟨_,es',ep',hL,r'⟩) hok I.bare
theorem Inv.call {g':Array GenState} {t':Nat} {d':Drawn} {ch:List Addr} (I:Inv X pins σ H s) (u:Un (frs X.stack) ch H H' s.heap h') (hok:HOk X.prog X.w H' h') (hg:AllBare g')
    (hch:∀b∈ch,(b∈X.ex∨X.s₀.heap.objs.size≤b)∧b≠X.env.locals∧(∀x c,X.env.cells.lookup x=some c→c≠b)∧∀p∈X.pn++pins,p.1≠b) :
    Inv X pins σ H' { s with heap:=h',gens:=g',drawn:=d',toks:=t' }:=by
  obtain ⟨m,⟨o,es,ep,ho,r⟩,_⟩:=id I.loc
  obtain ⟨sl,hL⟩:=u.any ho I.free fun z=>(hch _ z).2.1 rfl
  exact I.step (ch:=ch) hch (fun b o hL hb hc e n=>u.keep b o e n (fun z=>(List.mem_cons.mp (I.stkSub b z)).elim hL hb) hc) (fun b o _ _ hc e n=>u.any e n hc) (fun b o hc e n=>u.free b o e n hc) (fun b o hc e=>u.there b o e hc) u.tups u.frzs u.tbls (fun m' hm=>by
    obtain ⟨o',es',ep',ho',r'⟩:=hm
    rw [ho] at ho';cases ho'
    exact ⟨_,es',ep',hL,r'⟩) hok hg
theorem Inv.turned {t':Nat} {it:Addr} (I:Inv X pins σ H s) (k:∀b o,b≠it→s.heap.get? b=some o→h'.get? b=some o) (hn:H it=none) (hL:it≠X.env.locals)
    (h1:it∈X.ex∨X.s₀.heap.objs.size≤it) (h2:∀x c,X.env.cells.lookup x=some c→c≠it) (h3:∀p∈X.pn++pins,p.1≠it):Inv X pins σ H { s with heap:=h',toks:=t' }:=by
  have nit:∀b u,H b=some u→b≠it:=fun b u e z=>by rw [z,hn] at e;cases e
  refine I.step (g':=s.gens) (d':=s.drawn) (ch:=[it]) (fun b hb=>?_) (fun b o _ _ hc e _=>k b o (fun z=>hc (by simp [z])) e) (fun b o _ _ hc e _=>⟨o.slots,k b o (fun z=>hc (by simp [z])) e⟩) (fun _ _ _ _ n=>n)
    (fun b o hc e=>⟨o,k b o (fun z=>hc (by simp [z])) e⟩) (fun _ _ e=>e) (fun _ _ _ e=>e) (fun b ps e=>⟨#[],by rw [e];simp⟩) (fun m hm=>?_) (fun b u e=>?_) I.bare
  · have e:b=it:=by simpa using hb
    subst e
    exact ⟨h1,hL,h2,h3⟩
  · obtain ⟨o,es,ep,ho,r⟩:=hm
    exact ⟨o,es,ep,k _ o (Ne.symm hL) ho,r⟩
  · refine (I.hok b u e).stay (fun c v hc q=>k c v ?_ q) (fun _ q=>q) fun _ _ q=>q
    rcases hc with z|z
    · rw [z];exact nit b u e
    · exact nit c _ z
theorem Inv.tok (I:Inv X pins σ H s) (t:Nat):Inv X pins σ H { s with toks:=t }:=I.un (h':=s.heap) (t':=t) Un.refl I.hok
theorem Inv.kept {t':Nat} (I:Inv X pins σ H s) (k:∀b u,s.heap.get? b=some u→h'.get? b=some u):Inv X pins σ H { s with heap:=h',toks:=t' }:=I.un (Un.kept k) (I.hok.kept k)
theorem Inv.laid {a:Addr} {o:HO} {t':Nat} (I:Inv X pins σ H s) (k:∀b u,s.heap.get? b=some u→h'.get? b=some u) (hp:s.heap.objs.size≤a) (new:yaZ X.prog X.w (upd H a o) h' a o) :
    Inv X pins σ (upd H a o) { s with heap:=h',toks:=t' }:=I.un (Un.laid k hp (I.hok.fresh hp)) (I.hok.laid k hp new)
theorem Inv.write {x e:Addr} {o:HO} {t':Nat} (I:Inv X pins σ H s) (mu:Mut (H x)) (he:e=x∨H e=some (.own x)) (k:∀b u,b≠e→s.heap.get? b=some u→h'.get? b=some u) (heo:∃u,h'.get? e=some u)
    (new:yaZ X.prog X.w (upd H x o) h' x o):Inv X pins σ (upd H x o) { s with heap:=h',toks:=t' }:=I.un (Un.write mu he k heo) (I.hok.write mu he k heo new)
theorem Inv.pins_of {pins':List (Addr×Obj)} (I:Inv X pins σ H s) (h:∀p∈pins',s.heap.get? p.1=some p.2∧H p.1=none∧p.1≠X.env.locals∧p.1∉X.fs∧∀v,p.2.data≠.cell v):Inv X pins' σ H s :=
  ⟨I.ok,I.os,I.bare,I.base,I.loc,I.cell,I.free,I.freeC,fun p hp=>(List.mem_append.mp hp).elim (fun z=>I.pin p (List.mem_append_left _ z)) (h p),I.hok,I.len⟩
theorem ycJ {N:List Str} (hN:N.Nodup) {i j:Nat} {x:Str} (a:N[i]?=some x) (b:N[j]?=some x):i=j:=by
  obtain ⟨h1,e1⟩:=List.getElem?_eq_some_iff.mp a
  obtain ⟨h2,e2⟩:=List.getElem?_eq_some_iff.mp b
  exact (List.getElem_inj hN).mp (e1.trans e2.symm)
theorem zc2 {M:Model} {A:Around} {E:Value→Shared→Prop} {i:Nat} {x:Str} {v:V} {u:Value} {Q:Unit→Shared→Prop} (I:Inv X pins σ H s) (hN:X.N.Nodup) (hi:X.N[i]?=some x) (hx:Loc X.env.scope x) (r:RelV v u)
    (h:∀s',Inv X pins (σ.set i (some v)) H s'→(∃a,Heap.SameBut a s.heap s'.heap∧(a=X.env.locals∨X.env.cells.lookup x=some a))→Q () s') (hf:X.fn x=true∨X.env.scope.names.lookup x=some .local:=by first|exact .inl rfl|exact .inr rfl|assumption):wpAny M A (storeName X.env x u) Q E s:=by
  obtain ⟨m,hn,hl⟩:=id I.loc
  have hcls:(X.env.scope.kind==.class||(X.env.scope.kind==.module&&X.env.locals != X.env.globals))=false:=by rw [I.ok.kind];rfl
  have hiσ:i < σ.length:=by rw [I.len];exact (List.getElem?_eq_some_iff.mp hi).1
  have cne:=I.cne
  have tracked:∀ {a:Addr} {h':Heap},(∃o,s.heap.get? a=some o∧H a=none)→Heap.SameBut a s.heap h'→HOk X.prog X.w H h':=fun {a h'} ha hs b ob e=>by
    obtain ⟨_,_,hfree⟩:=ha
    refine (I.hok b ob e).stay (fun c w' hc q=>(hs.2 c ?_).trans q) (fun _ q=>q) fun _ _ q=>q
    rintro rfl
    rcases hc with rfl|hc
    · rw [hfree] at e;cases e
    · rw [hfree] at hc;cases hc
  rcases hx with hk|hk
  · refine wpAny_storeName_local hk hn (fun h' hn' hs=>?_) hcls
    obtain ⟨oL,_,_,hoL,_⟩:=id hn
    refine h _ ⟨I.ok,I.os,I.bare,⟨fun b o e n hb hx=>?_,fun b o e n hb hx=>?_,I.base.free,fun b o e hx=>?_,I.base.tups,I.base.frzs,I.base.tbls⟩,⟨_,hn',fun j y v' e1 e2 e3=>?_⟩,fun y c e=>?_,I.free,I.freeC,fun p hp=>?_,tracked ⟨oL,hoL,I.free⟩ hs,by simpa using I.len⟩ ⟨_,hs,.inl rfl⟩
    · exact (hs.2 b (Nat.ne_of_lt (Nat.lt_of_lt_of_le (Heap.lt_size e) I.ok.above))).trans (I.base.keep b o e n hb hx)
    · obtain ⟨sl,e1⟩:=I.base.slot b o e n hb hx
      exact ⟨sl,(hs.2 b (Nat.ne_of_lt (Nat.lt_of_lt_of_le (Heap.lt_size e) I.ok.above))).trans e1⟩
    · obtain ⟨o',e1⟩:=I.base.there b o e hx
      exact ⟨o',(hs.2 b (Nat.ne_of_lt (Nat.lt_of_lt_of_le (Heap.lt_size e) I.ok.above))).trans e1⟩
    · by_cases hj:j=i
      · subst hj
        rw [hi] at e1;cases e1
        rw [List.getElem?_set_self hiσ] at e2
        cases e2
        exact ⟨u,r,.inl ⟨hk,by simp⟩⟩
      · rw [List.getElem?_set_ne (Ne.symm hj)] at e2
        obtain ⟨u',r',q⟩:=hl j y v' e1 e2 e3
        refine ⟨u',r',?_⟩
        rcases q with ⟨k,e⟩ | ⟨k,c,e,z⟩
        · refine .inl ⟨k,?_⟩
          have:y≠x:=fun e=>hj (ycJ hN e1 (e ▸ hi))
          simp [this,e]
        · exact .inr ⟨k,c,e,z.sameBut hs (cne y c e)⟩
    · obtain ⟨w',z⟩:=I.cell y c e
      exact ⟨w',z.sameBut hs (cne y c e)⟩
    · obtain ⟨e,n,ne,nf,d⟩:=I.pin p hp
      exact ⟨(hs.2 p.1 ne).trans e,n,ne,nf,d⟩
  · have hfn:X.fn x=true:=by
      rcases hf with z|z
      · exact z
      · rw [z] at hk;cases hk
    obtain ⟨c,hc⟩:=I.ok.has x (.inl hk)
    obtain ⟨w',z⟩:=I.cell x c hc
    refine wpAny_storeName_cell I.ok.kind hk hc z (fun h' hc' hs=>?_)
    obtain ⟨oc,hoc,hocd⟩:=id z
    refine h { s with heap:=h' } ⟨I.ok,I.os,I.bare,⟨fun b o e n hb hx=>?_,fun b o e n hb hx=>?_,I.base.free,fun b o e hx=>?_,I.base.tups,I.base.frzs,I.base.tbls⟩,⟨m,hn.sameBut hs (Ne.symm (cne x c hc)),fun j y v' e1 e2 e3=>?_⟩,fun y c' e=>?_,I.free,I.freeC,fun p hp=>?_,tracked ⟨oc,hoc,I.freeC x c hc⟩ hs,by simpa using I.len⟩ ⟨c,hs,.inr hc⟩
    · exact (hs.2 b (Nat.ne_of_lt (Nat.lt_of_lt_of_le (Heap.lt_size e) (I.ok.cab x c hfn hc)))).trans (I.base.keep b o e n hb hx)
    · obtain ⟨sl,e1⟩:=I.base.slot b o e n hb hx
      exact ⟨sl,(hs.2 b (Nat.ne_of_lt (Nat.lt_of_lt_of_le (Heap.lt_size e) (I.ok.cab x c hfn hc)))).trans e1⟩
    · obtain ⟨o',e1⟩:=I.base.there b o e hx
      exact ⟨o',(hs.2 b (Nat.ne_of_lt (Nat.lt_of_lt_of_le (Heap.lt_size e) (I.ok.cab x c hfn hc)))).trans e1⟩
    · by_cases hj:j=i
      · subst hj
        rw [hi] at e1;cases e1
        rw [List.getElem?_set_self hiσ] at e2
        cases e2
        exact ⟨u,r,.inr ⟨.inl hk,c,hc,hc'⟩⟩
      · rw [List.getElem?_set_ne (Ne.symm hj)] at e2
        obtain ⟨u',r',q⟩:=hl j y v' e1 e2 e3
        refine ⟨u',r',?_⟩
        rcases q with q | ⟨k,c',e,z'⟩
        · exact .inl q
        · refine .inr ⟨k,c',e,z'.sameBut hs ?_⟩
          rintro rfl
          exact hj (ycJ hN e1 (I.ok.inj _ _ _ e hc ▸ hi))
    · by_cases hcc:c'=c
      · subst hcc;exact ⟨_,hc'⟩
      · obtain ⟨w2,z2⟩:=I.cell y c' e
        exact ⟨w2,z2.sameBut hs hcc⟩
    · obtain ⟨e,n,ne,nf,d⟩:=I.pin p hp
      refine ⟨(hs.2 p.1 ?_).trans e,n,ne,nf,d⟩
      intro q
      rw [q,hoc] at e
      have q':oc=p.2:=Option.some.inj e
      exact d w' (by rw [←q'];exact hocd)
theorem ya3 {M:Model} {A:Around} {E:Value→Shared→Prop} {i:Nat} {x:Str} {v:V} {u:Value} {Q:Unit→Shared→Prop} (I:Inv X pins σ H s) (hN:X.N.Nodup) (hi:X.N[i]?=some x) (hx:Loc X.env.scope x) (r:RelV v u)
    (h:∀s',Inv X pins (σ.set i (some v)) H s'→Q () s') (hf:X.fn x=true∨X.env.scope.names.lookup x=some .local:=by first|exact .inl rfl|exact .inr rfl|assumption):wpAny M A (storeName X.env x u) Q E s :=
  zc2 I hN hi hx r (fun s' I' _=>h s' I') hf
theorem Inv.call' {s':Shared} {ch:List Addr} (I:Inv X pins σ H s) (ho:s'.os=s.os) (u:Un (frs X.stack) ch H H' s.heap s'.heap) (hok:HOk X.prog X.w H' s'.heap) (hg:AllBare s'.gens)
    (hch:∀b∈ch,(b∈X.ex∨X.s₀.heap.objs.size≤b)∧b≠X.env.locals∧(∀x c,X.env.cells.lookup x=some c→c≠b)∧∀p∈X.pn++pins,p.1≠b):Inv X pins σ H' s':=by
  obtain ⟨h',g',d',t',o'⟩:=s'
  have e:o'=s.os:=ho
  subst e
  exact I.call (g':=g') (t':=t') (d':=d') u hok hg hch
end
noncomputable abbrev XK:=Value→Option Addr→Hp→Prop
noncomputable abbrev St:=List (Option V)
noncomputable abbrev VK:=V→Hp→Prop
noncomputable abbrev TE:=St→Hp→VK→Prop
noncomputable abbrev TT:=St→Hp→(Bool→Hp→Prop)→Prop
noncomputable abbrev TA:=St→Hp→(List V→Hp→Prop)→Prop
structure Ends where
  nx:St→Hp→Prop
  rt:VK
  bk:St→Hp→Prop:=fun _ _=>False
  ct:St→Hp→Prop:=fun _ _=>False
noncomputable abbrev TS:=Ends→St→Hp→Prop
noncomputable def EP (X:Cx) (pins:List (Addr×Obj)) (σ:St) (Q:VK) (u:Value) (s':Shared):Prop:=∃v H',Inv X pins σ H' s'∧RelV v u∧Q v H'
noncomputable def TP (X:Cx) (pins:List (Addr×Obj)) (σ:St) (Q:Bool→Hp→Prop) (b:Bool) (s':Shared):Prop:=∃H',Inv X pins σ H' s'∧Q b H'
noncomputable def AP (X:Cx) (pins:List (Addr×Obj)) (σ:St) (Q:List V→Hp→Prop) (us:List Value) (s':Shared):Prop:=∃vs H',Inv X pins σ H' s'∧Vals vs us∧Q vs H'
noncomputable def SP (X:Cx) (pins:List (Addr×Obj)) (D:Ends) (f:Flow) (s':Shared):Prop :=
  match f with
  | .next=>∃σ' H',Inv X pins σ' H' s'∧D.nx σ' H'
  | .brk=>∃σ' H',Inv X pins σ' H' s'∧D.bk σ' H'
  | .cont=>∃σ' H',Inv X pins σ' H' s'∧D.ct σ' H'
  | .ret u=>∃v σ' H',Inv X pins σ' H' s'∧RelV v u∧D.rt v H'
noncomputable def PE (X:Cx) (e:Expr) (t:TE):Prop :=
  ∀(pins:List (Addr×Obj)) (s:Shared) (σ:St) (H:Hp) (Q:VK),Inv X pins σ H s→t σ H Q→wpAny (model X.prog X.w) X.A (eval e X.env) (EP X pins σ Q) X.xe s
noncomputable def PT (X:Cx) (e:Expr) (t:TT):Prop :=
  ∀(pins:List (Addr×Obj)) (s:Shared) (σ:St) (H:Hp) (Q:Bool→Hp→Prop),Inv X pins σ H s→t σ H Q→wpAny (model X.prog X.w) X.A (isTrue e X.env (eval e X.env)) (TP X pins σ Q) X.xe s
noncomputable def PW (X:Cx) (e:Expr) (t:TT):Prop :=
  ∀(whole:Sem Value) (pins:List (Addr×Obj)) (s:Shared) (σ:St) (H:Hp) (Q:Bool→Hp→Prop),Inv X pins σ H s→t σ H Q→wpAny (model X.prog X.w) X.A (isTrue e X.env whole) (TP X pins σ Q) X.xe s
theorem PW.pt {X:Cx} {e:Expr} {t:TT} (h:PW X e t):PT X e t:=h _
noncomputable def PA (X:Cx) (es:List Expr) (t:TA):Prop :=
  ∀(pos:Pos) (pins:List (Addr×Obj)) (s:Shared) (σ:St) (H:Hp) (Q:List V→Hp→Prop),Inv X pins σ H s→t σ H Q→wpAny (model X.prog X.w) X.A (spliced (backTo pos (starEach es X.env))) (AP X pins σ Q) X.xe s
noncomputable def PS (X:Cx) (st:Stmt) (t:TS):Prop :=
  ∀(pins:List (Addr×Obj)) (s:Shared) (σ:St) (H:Hp) (D:Ends),Inv X pins σ H s→t D σ H→wpAny (model X.prog X.w) X.A (exec st X.env) (SP X pins D) X.xe s
noncomputable def PSs (X:Cx) (st:List Stmt) (t:TS):Prop :=
  ∀(pins:List (Addr×Obj)) (s:Shared) (σ:St) (H:Hp) (D:Ends),Inv X pins σ H s→t D σ H→wpAny (model X.prog X.w) X.A (execs st X.env) (SP X pins D) X.xe s
theorem thn {α:Type} {t:Sem α} {Q Q':α→Shared→Prop} {M:Model} {A:Around} {E:Value→Shared→Prop} {s:Shared} (h:wpAny M A t Q E s) (hQ:∀a s,Q a s→Q' a s):wpAny M A t Q' E s:=wpAny_mono h hQ fun _ _ x=>x
end L2
namespace L2
open PySem PySem.Spec PyProof.Rows
section
variable {X:Cx}
theorem bin {a b:Expr} {ta tb:TE} (ha:PE X a ta) (hb:PE X b tb) {pins:List (Addr×Obj)} {s:Shared} {σ:St} {H:Hp} {R:V→V→Hp→Prop} (I:Inv X pins σ H s) (h:ta σ H fun x H1=>tb σ H1 fun y H2=>R x y H2)
    {α:Type} {Q:α→Shared→Prop} {f:Value→Value→Sem α}
    (hf:∀v u s2 x y H2,Inv X pins σ H2 s2→RelV x v→RelV y u→R x y H2→wpAny (model X.prog X.w) X.A (f v u) Q X.xe s2) :
    wpAny (model X.prog X.w) X.A (eval a X.env) (fun v s₁=>wpAny (model X.prog X.w) X.A (eval b X.env) (fun u s₂=>wpAny (model X.prog X.w) X.A (f v u) Q X.xe s₂) X.xe s₁) X.xe s:=by
  refine thn (ha pins s σ H _ I h) fun v s1 ⟨x,H1,I1,r1,q1⟩=>?_
  refine thn (hb pins s1 σ H1 _ I1 q1) fun u s2 ⟨y,H2,I2,r2,q2⟩=>?_
  exact hf v u s2 x y H2 I2 r1 r2 q2
noncomputable def tVar (i:Nat):TE:=fun σ H Q=>∃v,σ[i]?=some (some v)∧Q v H
noncomputable def tC (v:V):TE:=fun _ H Q=>Q v H
theorem zf8 {i:Nat} {x:Str} {pos:Pos} (hN:X.N[i]?=some x) (hv:Vis X.env.scope x) (hd:(x==("__debug__":Str))=false:=by decide) (hcd:(x==("__classdict__":Str))=false:=by decide):PE X (.Name x pos) (tVar i):=by
  intro pins s σ H Q I h
  obtain ⟨v,e,h⟩:=h
  obtain ⟨m,hn,hl⟩:=I.loc
  obtain ⟨u,r,l⟩:=hl i x v hN e hv
  have fin:EP X pins σ Q u s:=⟨v,H,I,r,h⟩
  rcases l with ⟨hk,hm⟩ | ⟨hk,c,hc,hcell⟩
  · exact wpAny_Name (wpAny_loadName_local I.ok.kind hk hn hm fin) hd
  · rcases hk with hk|hk
    · exact wpAny_Name (wpAny_loadName_cell I.ok.kind hk hc hcell fin) hd
    · exact wpAny_Name (wpAny_loadName_free I.ok.kind hk hc hcell fin hcd) hd
theorem zab {i j pos}:PE X (.Constant (.int i) j pos) (tC (.int i)):=fun _ _ _ H _ I h=>wpAny_Constant_int ⟨.int i,H,I.tok _,⟨_,rfl⟩,h⟩
theorem zcM {b j pos}:PE X (.Constant (.bool b) j pos) (tC (.bl b)):=fun _ _ _ H _ I h=>Constant_bool ⟨.bl b,H,I,rfl,h⟩
theorem ycs {j pos}:PE X (.Constant .none j pos) (tC .non):=fun _ _ _ H _ I h=>Constant_none ⟨.non,H,I,rfl,h⟩
theorem ya1 {x j pos}:PE X (.Constant (.str x) j pos) (tC (.str x)):=fun _ _ _ H _ I h=>Calls.Constant_str ⟨.str x,H,I.tok _,⟨_,rfl⟩,h⟩
noncomputable def Gl (X:Cx) (x:Str):Prop:=X.env.kindOf x=some .globalImplicit
theorem zb2 {E:Value→Shared→Prop} {pins:List (Addr×Obj)} {s:Shared} {σ:St} {H:Hp} {x:Str} {u:Value} {pos:Pos} {Q:Value→Shared→Prop} (I:Inv X pins σ H s) (hg:Gl X x) (hm:X.mg x=some u) (h:Q u s)
    (hd:(x==("__debug__":Str))=false:=by decide):wpAny (model X.prog X.w) X.A (eval (.Name x pos) X.env) Q E s :=
  Calls.Name_function_global I.ok.kind hg (Calls.loadGlobal_global (by rw [I.ok.glob];exact I.mod.glob.keeps I.bk) hm h) hd
theorem zbz {E:Value→Shared→Prop} {pins:List (Addr×Obj)} {s:Shared} {σ:St} {H:Hp} {x:Str} {u:Value} {pos:Pos} {Q:Value→Shared→Prop} (I:Inv X pins σ H s) (hg:Gl X x) (hm:X.mg x=none) (hv:bootBuiltins x=some u) (h:Q u s)
    (hn:x≠"__name__":=by decide) (hd:(x==("__debug__":Str))=false:=by decide):wpAny (model X.prog X.w) X.A (eval (.Name x pos) X.env) Q E s:=by
  obtain ⟨mb,h1,h2⟩:=I.mod.blt
  exact Calls.Name_function_global I.ok.kind hg (Calls.loadGlobal_builtin (by rw [I.ok.glob];exact I.mod.glob.keeps I.bk) hm (by rw [I.ok.blt];exact h1.keeps I.bk) ((h2 x hn).trans hv) h) hd
theorem zbB {x:Str} {v:V} {u:Value} {pos:Pos} (hg:Gl X x) (hm:X.mg x=some u) (r:RelV v u) (hd:(x==("__debug__":Str))=false:=by decide):PE X (.Name x pos) (tC v) :=
  fun _ _ _ H _ I h=>zb2 I hg hm ⟨v,H,I,r,h⟩ hd
theorem zcE {x:Str} {v:V} {u:Value} {pos:Pos} (hg:Gl X x) (hm:X.mg x=none) (hv:bootBuiltins x=some u) (r:RelV v u) (hn:x≠"__name__":=by decide) (hd:(x==("__debug__":Str))=false:=by decide):PE X (.Name x pos) (tC v) :=
  fun _ _ _ H _ I h=>zbz I hg hm hv ⟨v,H,I,r,h⟩ hn hd
noncomputable def t2I (ta tb:TE) (k:Int→Int→Hp→Prop):St→Hp→Prop:=fun σ H=>ta σ H fun x H1=>tb σ H1 fun y H2=>∃i j,x = .int i∧y = .int j∧k i j H2
variable {a b:Expr} {ta tb:TE} {pos:Pos}
noncomputable def PC (X:Cx) (op:CmpOp) (a b:Expr) (t:TE):Prop :=
  ∀(pins:List (Addr×Obj)) (s:Shared) (σ:St) (H:Hp) (Q:VK),Inv X pins σ H s→t σ H Q→
    wpAny (model X.prog X.w) X.A (eval a X.env) (fun v s₁=>wpAny (model X.prog X.w) X.A (eval b X.env) (fun u s₂=>wpAny (model X.prog X.w) X.A (compareOp op v u) (EP X pins σ Q) X.xe s₂) X.xe s₁) X.xe s
theorem zeS (b:Expr) {op:CmpOp} (h:op≠.In) (h2:op≠.NotIn):behindInMarks op b=false:=by
  have e1:(op==CmpOp.In)=false:=by cases op <;> first|rfl|exact absurd rfl h
  have e2:(op==CmpOp.NotIn)=false:=by cases op <;> first|rfl|exact absurd rfl h2
  cases b <;> simp [behindInMarks,e1,e2]
noncomputable def tCmp (p:Int→Int→Bool) (ta tb:TE):TE:=fun σ H Q=>t2I ta tb (fun i j H2=>Q (.bl (p i j)) H2) σ H
noncomputable abbrev tLt:TE→TE→TE:=tCmp fun i j=>decide (i<j)
noncomputable abbrev tLe:TE→TE→TE:=tCmp fun i j=>decide (i≤j)
noncomputable abbrev tGt:TE→TE→TE:=tCmp fun i j=>decide (j<i)
noncomputable abbrev tGe:TE→TE→TE:=tCmp fun i j=>decide (j≤i)
noncomputable abbrev tEqI:TE→TE→TE:=tCmp fun i j=>decide (i=j)
noncomputable abbrev tNeI:TE→TE→TE:=tCmp fun i j=>!decide (i=j)
noncomputable def tIsN (ta:TE):TE:=fun σ H Q=>ta σ H fun x H1=>Q (.bl (decide (x = .non))) H1
theorem RelV.none_iff {x:V} {v:Value} (r:RelV x v):(v==Value.none)=decide (x = .non):=by
  cases x with
  | non=>cases r;rfl
  | bl _=>cases r;rfl
  | int _=>obtain ⟨t,rfl⟩:=r;rfl
  | str _=>obtain ⟨t,rfl⟩:=r;rfl
  | byt _=>obtain ⟨t,rfl⟩:=r;rfl
  | flt _=>obtain ⟨t,rfl⟩:=r;rfl
  | ref _=>cases r;rfl
  | ty _=>cases r;rfl
theorem yfL {j pos'} (ha:PE X a ta):PC X .Is a (.Constant .none j pos') (tIsN ta):=by
  intro pins s σ H Q I h
  refine thn (ha pins s σ H _ I h) fun v s1 ⟨x,H1,I1,r1,q1⟩=>?_
  exact Constant_none (is_none_gen ⟨.bl _,H1,I1,by rw [r1.none_iff];rfl,q1⟩)
noncomputable def tB (t:TE):TT:=fun σ H Q=>t σ H fun x H1=>∃c,x = .bl c∧Q c H1
theorem zfO {op:CmpOp} {t:TE} (h:PC X op a b t) (h1:behindInMarks op b=false:=by first|exact zeS _ (by decide) (by decide)|rfl):PT X (.Compare a [op] [b] pos) (tB t):=by
  intro pins s σ H Q I hw
  refine wpAny_isTrue_Compare1 (thn (h pins s σ H _ I hw) fun v s1 h1=>thn h1 fun u s2 h2=>thn h2 fun c s3 ⟨x,H1,I1,r1,q1⟩=>?_) h1
  obtain ⟨d,rfl,q⟩:=q1
  cases r1
  exact wpAny_truthy_bool ⟨H1,I1,q⟩
theorem ycZ {e:Expr} {t:TE} (h:PE X e t) (he:∀whole,isTrue e X.env whole=(do let v ←whole;standAt e.pos;holding [v] (truthy v)):=by intro _;rfl):PT X e (tB t):=by
  intro pins s σ H Q I hw
  refine isTrue_plain (thn (h pins s σ H _ I hw) fun v s1 ⟨x,H1,I1,r1,q1⟩=>?_) (he _)
  obtain ⟨d,rfl,q⟩:=q1
  cases r1
  exact wpAny_truthy_bool ⟨H1,I1,q⟩
variable {tA tB':TT} {rest:List Expr}
noncomputable def tAnd (t u:TT):TT:=fun σ H Q=>t σ H fun c H1=>if c=true then u σ H1 Q else Q false H1
noncomputable def tOr (t u:TT):TT:=fun σ H Q=>t σ H fun c H1=>if c=true then Q true H1 else u σ H1 Q
noncomputable def tNot (t:TT):TT:=fun σ H Q=>t σ H fun c H1=>Q (!c) H1
theorem zbC (ha:PT X a tA):PW X (.BoolOp .And [a] pos) tA:=by
  intro wh pins s σ H Q I h
  refine isTrue_and (thn (ha pins s σ H Q I h) fun c s1 e=>?_)
  cases c with
  | true=>exact isTrue_and_nil e
  | false=>exact e
theorem zbG (ha:PT X a tA):PW X (.BoolOp .Or [a] pos) tA:=by
  intro wh pins s σ H Q I h
  refine isTrue_or (thn (ha pins s σ H Q I h) fun c s1 e=>?_)
  cases c with
  | false=>exact isTrue_or_nil e
  | true=>exact e
theorem ybU (ha:PT X a tA) (hb:PW X (.BoolOp .And (b::rest) pos) tB'):PW X (.BoolOp .And (a::b::rest) pos) (tAnd tA tB'):=by
  intro wh pins s σ H Q I h
  refine isTrue_and (thn (ha pins s σ H _ I h) fun c s1 ⟨H1,I1,q1⟩=>?_)
  cases c with
  | true=>exact hb wh pins s1 σ H1 Q I1 q1
  | false=>exact ⟨H1,I1,q1⟩
theorem ycL (ha:PT X a tA) (hb:PW X (.BoolOp .Or (b::rest) pos) tB'):PW X (.BoolOp .Or (a::b::rest) pos) (tOr tA tB'):=by
  intro wh pins s σ H Q I h
  refine isTrue_or (thn (ha pins s σ H _ I h) fun c s1 ⟨H1,I1,q1⟩=>?_)
  cases c with
  | true=>exact ⟨H1,I1,q1⟩
  | false=>exact hb wh pins s1 σ H1 Q I1 q1
theorem zc7 (ha:PT X a tA):PT X (.UnaryOp .Not a pos) (tNot tA):=by
  intro pins s σ H Q I h
  exact isTrue_not (ha pins s σ H (fun c H1=>Q (!c) H1) I h)
noncomputable def zgi (ta tb:TE):TE:=fun σ H Q=>ta σ H fun x H1=>∃c,x = .bl c∧if c=true then tb σ H1 Q else Q (.bl false) H1
noncomputable def ygb (ta:TE):TE:=fun σ H Q=>ta σ H fun x H1=>∃c,x = .bl c∧Q (.bl (!c)) H1
theorem yeg {op} {t:TE} (h:PE X a t):PE X (.BoolOp op [a] pos) t:=fun pins s σ H Q I hw=>BoolOp_one (h pins s σ H Q I hw)
theorem ycQ (ha:PE X a ta) (hb:PE X (.BoolOp .And (b::rest) pos) tb):PE X (.BoolOp .And (a::b::rest) pos) (zgi ta tb):=by
  intro pins s σ H Q I h
  refine BoolOp_and (thn (ha pins s σ H _ I h) fun v s1 ⟨x,H1,I1,r1,q1⟩=>?_)
  obtain ⟨c,rfl,q1⟩:=q1
  cases r1
  refine wpAny_truthy_bool ?_
  cases c with
  | true=>exact hb pins s1 σ H1 Q I1 q1
  | false=>exact ⟨.bl false,H1,I1,rfl,q1⟩
theorem zfb (ha:PE X a ta):PE X (.UnaryOp .Not a pos) (ygb ta):=by
  intro pins s σ H Q I h
  refine UnaryOp_ (thn (ha pins s σ H _ I h) fun v s1 ⟨x,H1,I1,r1,q1⟩=>?_)
  obtain ⟨c,rfl,q1⟩:=q1
  cases r1
  exact not_of (wpAny_truthy_bool ⟨.bl (!c),H1,I1,rfl,q1⟩)
noncomputable def tIf (t:TT) (ta tb:TE):TE:=fun σ H Q=>t σ H fun c H1=>if c=true then ta σ H1 Q else tb σ H1 Q
theorem ze4 {c:Expr} (hc:PT X c tA) (ha:PE X a ta) (hb:PE X b tb):PE X (.IfExp c a b pos) (tIf tA ta tb):=by
  intro pins s σ H Q I h
  refine wpAny_IfExp (thn (hc pins s σ H _ I h) fun d s1 ⟨H1,I1,q1⟩=>?_)
  cases d with
  | true=>exact ha pins s1 σ H1 Q I1 q1
  | false=>exact hb pins s1 σ H1 Q I1 q1
end
end L2
namespace L2
open PySem PySem.Spec PyProof.Rows
noncomputable def SqL (K:PySem.W.Frag) (H:Hp) (a:Addr) (xs:List V):Prop :=
  Rd H a (.lst xs)∨
    ∃(o:Obj) (its:Array Value) (n:Nat),K.lookup a=some o∧o.cls = .type "list"∧o.dict=none∧o.data = .seq its n∧its.size≤sizeLine∧Vals xs its.toList
noncomputable def SqT (K:PySem.W.Frag) (H:Hp) (a:Addr) (xs:List V):Prop :=
  Rd H a (.tup xs)∨
    ∃(o:Obj) (its:Array Value) (n:Nat),K.lookup a=some o∧o.cls = .type "tuple"∧o.data = .seq its n∧its.size≤sizeLine∧Vals xs its.toList
noncomputable def absV:Value→Option V
  | .none=>some .non
  | .bool b=>some (.bl b)
  | .int i _=>some (.int i)
  | .str x _=>some (.str x)
  | .bytes b _=>some (.byt b)
  | .float b _=>some (.flt b)
  | .ref a=>some (.ref a)
  | .type n=>some (.ty n)
  | _=>none
theorem RelV.abs {x:V} {u:Value} (r:RelV x u):absV u=some x:=by
  cases x with
  | non=>cases r;rfl
  | bl _=>cases r;rfl
  | int _=>obtain ⟨t,rfl⟩:=r;rfl
  | str _=>obtain ⟨t,rfl⟩:=r;rfl
  | byt _=>obtain ⟨t,rfl⟩:=r;rfl
  | flt _=>obtain ⟨t,rfl⟩:=r;rfl
  | ref _=>cases r;rfl
  | ty _=>cases r;rfl
theorem RelV.inj {x y:V} {u:Value} (r:RelV x u) (q:RelV y u):x=y:=Option.some.inj (r.abs.symm.trans q.abs)
theorem Vals.inj:∀ {xs ys:List V} {us:List Value},Vals xs us→Vals ys us→xs=ys
  | _,_,_,.nil,.nil=>rfl
  | _,_,_,.cons r t,.cons r' t'=>by rw [r.inj r',Vals.inj t t']
section
variable {X:Cx} {pins:List (Addr×Obj)} {σ:St} {H:Hp} {s:Shared} {a:Addr} {xs ys:List V}
theorem SqL.of {K:PySem.W.Frag} (h:H a=some (.lst xs)):SqL K H a xs:=.inl (.inl h)
theorem SqT.of {K:PySem.W.Frag} (h:H a=some (.tup xs)):SqT K H a xs:=.inl (.inl h)
theorem Inv.list (I:Inv X pins σ H s) (h:SqL X.K H a xs):∃its:List Value,Vals xs its∧PlainL s.heap a its.toArray∧xs.length≤sizeLine:=by
  rcases h with h | ⟨o,its,n,hk,hc,hd,hs,hz,r⟩
  · obtain ⟨z,its,n,r,e⟩:=h.ok I.hok
    exact ⟨its,r,⟨_,n,e,rfl,rfl,rfl⟩,z⟩
  · refine ⟨its.toList,r,⟨o,n,I.kIn a o hk,hc,hd,by simpa using hs⟩,?_⟩
    have e:=r.length
    simp only [Array.length_toList] at e
    omega
theorem Inv.tuple (I:Inv X pins σ H s) (h:SqT X.K H a xs):∃its:List Value,Vals xs its∧IsTup s.heap a its.toArray∧xs.length≤sizeLine:=by
  rcases h with h | ⟨o,its,n,hk,hc,hs,hz,r⟩
  · obtain ⟨z,its,r,p⟩:=h.ok I.hok
    exact ⟨its,r,p,z⟩
  · refine ⟨its.toList,r,⟨o,I.kIn a o hk,hc,n,by simpa using hs⟩,?_⟩
    have e:=r.length
    simp only [Array.length_toList] at e
    omega
theorem Inv.list_inj (I:Inv X pins σ H s) (h:SqL X.K H a xs) (h':SqL X.K H a ys):xs=ys:=by
  obtain ⟨its,r,⟨o,n,e,_,_,d⟩,_⟩:=I.list h
  obtain ⟨its',r',⟨o',n',e',_,_,d'⟩,_⟩:=I.list h'
  rw [e] at e';cases e'
  rw [d] at d'
  injection d' with d1 _
  have:its=its':=by simpa using congrArg Array.toList d1
  subst this
  exact r.inj r'
theorem Inv.tuple_inj (I:Inv X pins σ H s) (h:SqT X.K H a xs) (h':SqT X.K H a ys):xs=ys:=by
  obtain ⟨its,r,⟨o,e,_,n,d⟩,_⟩:=I.tuple h
  obtain ⟨its',r',⟨o',e',_,n',d'⟩,_⟩:=I.tuple h'
  rw [e] at e';cases e'
  rw [d] at d'
  injection d' with d1 _
  have:its=its':=by simpa using congrArg Array.toList d1
  subst this
  exact r.inj r'
end
noncomputable abbrev Cx.wish (X:Cx) (E:Value→Shared→Prop):Cx:={ X with xe:=E }
noncomputable abbrev Cx.nox (X:Cx):Cx:=X.wish fun _ _=>False
theorem Cx.Ok.wish {X:Cx} (ok:X.Ok) (E:Value→Shared→Prop):(X.wish E).Ok :=
  ⟨ok.mod,ok.kind,ok.glob,ok.blt,ok.above,ok.inj,ok.has,ok.cab,ok.hd,ok.frames,ok.stk,ok.exf,ok.bs,ok.bsz,ok.noex,ok.exfs,ok.funs,ok.frf⟩
theorem Cx.Ok.unwish {X:Cx} {E:Value→Shared→Prop} (ok:(X.wish E).Ok):X.Ok :=
  ⟨ok.mod,ok.kind,ok.glob,ok.blt,ok.above,ok.inj,ok.has,ok.cab,ok.hd,ok.frames,ok.stk,ok.exf,ok.bs,ok.bsz,ok.noex,ok.exfs,ok.funs,ok.frf⟩
section
variable {X:Cx} {pins:List (Addr×Obj)} {σ:St} {H:Hp} {s:Shared} {E:Value→Shared→Prop}
theorem Inv.wish (I:Inv X pins σ H s) (E:Value→Shared→Prop):Inv (X.wish E) pins σ H s:=⟨I.ok.wish E,I.os,I.bare,I.base,I.loc,I.cell,I.free,I.freeC,I.pin,I.hok,I.len⟩
theorem Inv.unwish (I:Inv (X.wish E) pins σ H s):Inv X pins σ H s:=⟨I.ok.unwish,I.os,I.bare,I.base,I.loc,I.cell,I.free,I.freeC,I.pin,I.hok,I.len⟩
theorem SP.unwish {D:Ends} {f:Flow} {s':Shared} (h:SP (X.wish E) pins D f s'):SP X pins D f s':=by
  cases f with
  | next=>obtain ⟨σ',H',I,q⟩:=h;exact ⟨σ',H',I.unwish,q⟩
  | brk=>obtain ⟨σ',H',I,q⟩:=h;exact ⟨σ',H',I.unwish,q⟩
  | cont=>obtain ⟨σ',H',I,q⟩:=h;exact ⟨σ',H',I.unwish,q⟩
  | ret u=>obtain ⟨v,σ',H',I,r,q⟩:=h;exact ⟨v,σ',H',I.unwish,r,q⟩
theorem PSs.nox {st:List Stmt} {t:TS} (h:PSs X.nox st t):PSs X st t:=fun pins s σ H D I hw =>
  wpAny_mono (h pins s σ H D (I.wish _) hw) (fun _ _ q=>q.unwish) fun _ _ z=>False.elim z
end
section
variable {X:Cx} {st:Stmt} {rest:List Stmt} {t u:TS} {e:Expr} {te:TE} {pos:Pos}
noncomputable def zdn:TS:=fun D σ H=>D.nx σ H
noncomputable def tSeq (t u:TS):TS:=fun D σ H=>t { D with nx:=u D } σ H
theorem zat:PSs X [] zdn:=fun _ _ σ H _ I h=>wpAny_execs_nil ⟨σ,H,I,h⟩
theorem yaa (h1:PS X st t) (h2:PSs X rest u):PSs X (st::rest) (tSeq t u):=by
  intro pins s σ H D I h
  refine wpAny_execs_cons (thn (h1 pins s σ H { D with nx:=u D } I h) fun f s1 q=>?_)
  cases f with
  | next =>
    obtain ⟨σ',H',I',q⟩:=q
    exact h2 pins s1 σ' H' D I' q
  | ret v=>exact q
  | brk=>exact q
  | cont=>exact q
theorem zad (h1:PS X st t):PSs X [st] t:=by
  intro pins s σ H D I h
  refine wpAny_execs_cons (thn (h1 pins s σ H D I h) fun f s1 q=>?_)
  cases f with
  | next=>exact wpAny_execs_nil q
  | ret v=>exact q
  | brk=>exact q
  | cont=>exact q
theorem Inv.quiet {pins:List (Addr×Obj)} {σ:St} {H:Hp} {s:Shared} (I:Inv X pins σ H s):interactive X.env=false:=by simp [interactive,I.ok.kind]
noncomputable def ygg (te:TE):TS:=fun D σ H=>te σ H fun _ H1=>D.nx σ H1
theorem zbp (he:PE X e te) (hs:swapsWith e none pos.line X.env=pure false:=by rfl):PS X (.Expr e pos) (ygg te):=by
  intro pins s σ H D I h
  exact wpAny_Expr_any (thn (he pins s σ H _ I h) fun v s1 ⟨x,H1,I1,r1,q1⟩=>⟨σ,H1,I1,q1⟩) I.quiet hs
noncomputable def tRet (te:TE):TS:=fun D σ H=>te σ H D.rt
theorem yal (he:PE X e te):PS X (.Return (some e) pos) (tRet te):=by
  intro pins s σ H D I h
  exact wpAny_Return_some (thn (he pins s σ H _ I h) fun v s1 ⟨x,H1,I1,r1,q1⟩=>⟨x,σ,H1,I1,r1,q1⟩)
noncomputable def tIfS (c:TT) (t u:TS):TS:=fun D σ H=>c σ H fun b H1=>if b=true then t D σ H1 else u D σ H1
theorem ya0 {c:Expr} {a b:List Stmt} {tc:TT} (hc:PT X c tc) (ha:PSs X a t) (hb:PSs X b u):PS X (.If c a b pos) (tIfS tc t u):=by
  intro pins s σ H D I h
  refine wpAny_If (thn (hc pins s σ H _ I h) fun d s1 ⟨H1,I1,q1⟩=>?_)
  cases d with
  | true=>exact ha pins s1 σ H1 D I1 q1
  | false=>exact hb pins s1 σ H1 D I1 q1
end
noncomputable abbrev TG:=V→St→Hp→(St→Hp→Prop)→Prop
noncomputable abbrev TGs:=List V→St→Hp→(St→Hp→Prop)→Prop
noncomputable def PG (X:Cx) (target:Expr) (t:TG):Prop :=
  ∀(pins:List (Addr×Obj)) (s:Shared) (σ:St) (H:Hp) (v:V) (u:Value) (Q:St→Hp→Prop),Inv X pins σ H s→RelV v u→t v σ H Q→
    wpAny (model X.prog X.w) X.A (assign target X.env u) (fun _ s'=>∃σ' H',Inv X pins σ' H' s'∧Q σ' H') X.xe s
noncomputable def PGs (X:Cx) (ts:List Expr) (t:TGs):Prop :=
  ∀(pins:List (Addr×Obj)) (s:Shared) (σ:St) (H:Hp) (vs:List V) (us:List Value) (Q:St→Hp→Prop),Inv X pins σ H s→Vals vs us→t vs σ H Q→
    wpAny (model X.prog X.w) X.A (assignInOrder ((assignEach ts X.env).map (·.2)) us) (fun _ s'=>∃σ' H',Inv X pins σ' H' s'∧Q σ' H') X.xe s
noncomputable abbrev TSet:=V→V→V→Hp→(Hp→Prop)→Prop
noncomputable def PSet (X:Cx) (t:TSet):Prop :=
  ∀(pins:List (Addr×Obj)) (s:Shared) (σ:St) (H:Hp) (o i v:V) (ov iv u:Value) (Q:Hp→Prop),Inv X pins σ H s→RelV o ov→RelV i iv→RelV v u→t o i v H Q→
    wpAny (model X.prog X.w) X.A (setItem ov iv u) (fun _ s'=>∃H',Inv X pins σ H' s'∧Q H') X.xe s
noncomputable abbrev TIp:=V→V→Hp→VK→Prop
noncomputable def PIp (X:Cx) (op:Operator) (t:TIp):Prop :=
  ∀(pins:List (Addr×Obj)) (s:Shared) (σ:St) (H:Hp) (x y:V) (v u:Value) (Q:VK),Inv X pins σ H s→RelV x v→RelV y u→t x y H Q→
    wpAny (model X.prog X.w) X.A (inplaceOp op v u) (EP X pins σ Q) X.xe s
section
variable {X:Cx} {pos:Pos}
noncomputable def zas (i:Nat):TG:=fun v σ H Q=>Q (σ.set i (some v)) H
theorem zaf {i:Nat} {x:Str} (hN:X.N.Nodup) (hi:X.N[i]?=some x) (hx:Loc X.env.scope x) (hf:X.fn x=true∨X.env.scope.names.lookup x=some .local:=by first|exact .inl rfl|exact .inr rfl|assumption):PG X (.Name x pos) (zas i):=by
  intro pins s σ H v u Q I r h
  exact wpAny_assign_Name (ya3 I hN hi hx r (fun s' I'=>⟨_,H,I',h⟩) hf)
noncomputable def gNil:TGs:=fun vs σ H Q=>vs=[]∧Q σ H
noncomputable def zgm (t:TG) (u:TGs):TGs:=fun vs σ H Q=>∃v r,vs=v::r∧t v σ H fun σ' H'=>u r σ' H' Q
theorem za1:PGs X [] gNil:=by
  intro pins s σ H vs us Q I r h
  obtain ⟨e,h⟩:=h
  subst e
  cases r
  exact assignInOrder_nil ⟨σ,H,I,h⟩
theorem yak {e:Expr} {es:List Expr} {t:TG} {u:TGs} (h1:PG X e t) (h2:PGs X es u)
    (hs:(assignEach (e::es) X.env).map (·.2)=assign e X.env::(assignEach es X.env).map (·.2):=by rfl):PGs X (e::es) (zgm t u):=by
  intro pins s σ H vs us Q I r h
  obtain ⟨v,vr,e1,h⟩:=h
  subst e1
  cases r with
  | cons r rr =>
    rw [hs]
    refine assignInOrder_cons (thn (h1 pins s σ H _ _ _ I r h) fun _ s1 ⟨σ1,H1,I1,q1⟩=>?_)
    exact h2 pins s1 σ1 H1 _ _ Q I1 rr q1
noncomputable def gTup (K:PySem.W.Frag) (n:Nat) (t:TGs):TG:=fun v σ H Q=>∃a xs,v = .ref a∧SqT K H a xs∧xs.length=n∧t xs σ H Q
theorem zbo {es:List Expr} {k:Nat} {t:TGs} {n:Nat} (hc:X.calm=true) (h:PGs X es t)
    (hn:(assignEach es X.env).length=n:=by rfl) (hst:(assignEach es X.env).findIdx? (·.1)=none:=by rfl):PG X (.Tuple es k pos) (gTup X.K n t):=by
  intro pins s σ H v u Q I r hw
  obtain ⟨a,xs,e1,hq,hl,hw⟩:=hw
  subst e1
  cases r
  obtain ⟨its,rv,ht,hz⟩:=I.tuple hq
  refine assign_Tuple_tuple (I.ok.hd hc) ht (by simp [hn,←hl,rv.length]) hst fun h' hx=>?_
  have I1:Inv X pins σ H { s with heap:=h' }:=I.kept (t':=s.toks) fun b o e=>hx b o (Nat.ne_of_lt (Heap.lt_size e)) e
  exact h pins _ σ H xs _ Q I1 (by simpa using rv) hw
noncomputable def gSub (to ti:TE) (t:TSet):TG:=fun v σ H Q=>to σ H fun o H1=>ti σ H1 fun i H2=>t o i v H2 fun H3=>Q σ H3
theorem zdK {o i:Expr} {to ti:TE} {t:TSet} (ho:PE X o to) (hi:PE X i ti) (hs:PSet X t)
    (ha:∀v,assign (.Subscript o i pos) X.env v=(do
      let ov ←holding [v] (eval o X.env)
      let iv ←holding [v,ov] (eval i X.env)
      standAt pos
      holding [v,ov,iv] (setItem ov iv v)
      release [v,ov,iv] []):=by intro _;rfl):PG X (.Subscript o i pos) (gSub to ti t):=by
  intro pins s σ H v u Q I r h
  rw [ha]
  refine wpAny_bind (wpAny_holding (thn (ho pins s σ H _ I h) fun ov s1 ⟨x,H1,I1,r1,q1⟩=>?_))
  refine wpAny_bind (wpAny_holding (thn (hi pins s1 σ H1 _ I1 q1) fun iv s2 ⟨y,H2,I2,r2,q2⟩=>?_))
  refine wpAny_bind (wpAny_standAt (wpAny_bind (wpAny_holding (thn (hs pins s2 σ H2 x y v ov iv u _ I2 r1 r2 r q2) fun _ s3 ⟨H3,I3,q3⟩=>?_))))
  exact wpAny_release ⟨σ,H3,I3,q3⟩
noncomputable def tAsg (te:TE) (g:TG):TS:=fun D σ H=>te σ H fun x H1=>g x σ H1 D.nx
theorem ybn {tg e:Expr} {te:TE} {g:TG} (he:PE X e te) (hg:PG X tg g) (hs:swapsWithSole [tg] e pos.line X.env=pure false:=by rfl) (hw:swappedStores [tg] e X.env=pure none:=by rfl)
    (h1:(assignEach [tg] X.env).map (·.2)=[assign tg X.env]:=by rfl):PS X (.Assign [tg] e pos) (tAsg te g):=by
  intro pins s σ H D I h
  refine wpAny_Assign_stores (thn (he pins s σ H _ I h) fun v s1 ⟨x,H1,I1,r1,q1⟩=>?_) hs hw
  rw [h1]
  exact thn (hg pins s1 σ H1 x v _ I1 r1 q1) fun _ s2 q=>q
theorem yag {i:Nat} {x:Str} {e:Expr} {te:TE} {pos':Pos} (hN:X.N.Nodup) (hi:X.N[i]?=some x) (hx:Loc X.env.scope x) (he:PE X e te) (hs:swapsWith e (some (.Name x pos')) pos.line X.env=pure false:=by rfl) (hf:X.fn x=true∨X.env.scope.names.lookup x=some .local:=by first|exact .inl rfl|exact .inr rfl|assumption) :
    PS X (.Assign [.Name x pos'] e pos) (tAsg te (zas i)):=by
  intro pins s σ H D I h
  refine wpAny_Assign_Name (thn (he pins s σ H _ I h) fun v s1 ⟨y,H1,I1,r1,q1⟩=>?_) hs
  exact ya3 I1 hN hi hx r1 (fun s2 I2=>⟨_,H1,I2,q1⟩) hf
noncomputable def tPar (i j:Nat) (ta:TA):TS:=fun D σ H=>ta σ H fun vs H1=>∃v w,vs=[v,w]∧D.nx ((σ.set i (some v)).set j (some w)) H1
theorem zbU {i j:Nat} {x y:Str} {a b:Expr} {ta:TA} {px py pt:Pos} {kt k2 pt2} (hc:X.calm=true) (hN:X.N.Nodup) (hi:X.N[i]?=some x) (hj:X.N[j]?=some y) (hij:i≠j)
    (hx:X.env.scope.names.lookup x=some .local) (hy:X.env.scope.names.lookup y=some .local) (ha:PA X [a,b] ta)
    (hw:swappedStores [.Tuple [.Name x px,.Name y py] kt pt] (.Tuple [a,b] k2 pt2) X.env=pure (some [x,y]))
    (hs:swapsWithSole [.Tuple [.Name x px,.Name y py] kt pt] (.Tuple [a,b] k2 pt2) pos.line X.env=pure false:=by rfl) :
    PS X (.Assign [.Tuple [.Name x px,.Name y py] kt pt] (.Tuple [a,b] k2 pt2) pos) (tPar i j ta):=by
  intro pins s σ H D I h
  rw [exec_Assign_arm]
  refine wpAny_bind (wpAny_standAt ?_)
  rw [hs]
  refine wpAny_bind (wpAny_pure ?_)
  rw [if_neg (by decide)]
  refine wpAny_bind (Tuple_ (thn (ha _ pins s σ H _ I h) fun us s1 ⟨vs,H1,I1,r1,q1⟩=>?_))
  obtain ⟨v,w,e1,q1⟩:=q1
  subst e1
  obtain ⟨u1,u2,rfl,rv,rw'⟩:∃u1 u2,us=[u1,u2]∧RelV v u1∧RelV w u2:=by
    cases r1 with
    | cons p q =>
      cases q with
      | cons p' q' =>
        cases q'
        exact ⟨_,_,rfl,p,p'⟩
  refine wpAny_newObj_type ?_ (by show 2≤sizeLine;decide)
  have I2:Inv X pins σ H1 { s1 with heap:=s1.heap.push { cls:=.type "tuple",data:=.seq [u1,u2].toArray } }:=I1.kept (t':=s1.toks) fun b o e=>Heap.get?_push_of_some _ e
  rw [hw]
  refine wpAny_bind (wpAny_pure ?_)
  show wpAny (model X.prog X.w) X.A (do rule "assign.swapped-stores";let items ←unpackItems (.ref s1.heap.objs.size) 2 none;assignInOrder [fun v=>bindName X.env y v,fun v=>bindName X.env x v] items.reverse;pure Flow.next) _ _ _
  refine wpAny_bind (wpAny_rule (wpAny_bind (unpackItems_tuple (items:=#[u1,u2]) (I.ok.hd hc) (IsTup.new s1.heap _) fun h' hx'=>?_)))
  have I3:=I2.kept (h':=h') (t':=s1.toks) fun b o e=>hx' b o (Nat.ne_of_lt (Heap.lt_size e)) e
  show wpAny _ _ (assignInOrder [fun v=>bindName X.env y v,fun v=>bindName X.env x v] [u2,u1] >>= fun _=>pure Flow.next) _ _ _
  refine wpAny_bind (assignInOrder_cons (wpAny_bindName (ya3 I3 hN hj (.inl hy) rw' (fun s2 I4=>?_) (.inr hy))))
  refine assignInOrder_cons (wpAny_bindName (ya3 I4 hN hi (.inl hx) rv (fun s3 I5=>assignInOrder_nil (wpAny_pure ?_)) (.inr hx)))
  rw [List.set_comm _ _ (Ne.symm hij)] at I5
  exact ⟨_,H1,I5,q1⟩
noncomputable def tAug (i:Nat) (te:TE) (ti:TIp):TS:=fun D σ H=>∃x,σ[i]?=some (some x)∧te σ H fun y H1=>ti x y H1 fun z H2=>D.nx (σ.set i (some z)) H2
theorem zbn {i:Nat} {x:Str} {e:Expr} {te:TE} {op:Operator} {ti:TIp} {pos':Pos} (hN:X.N.Nodup) (hi:X.N[i]?=some x) (hx:Loc X.env.scope x) (he:PE X e te) (ho:PIp X op ti) (hf:X.fn x=true∨X.env.scope.names.lookup x=some .local:=by first|exact .inl rfl|exact .inr rfl|assumption) :
    PS X (.AugAssign (.Name x pos') op e pos) (tAug i te ti):=by
  intro pins s σ H D I h
  obtain ⟨v,e1,h⟩:=h
  obtain ⟨m,hn,hl⟩:=I.loc
  have vis:Vis X.env.scope x:=by rcases hx with k|k;exact .inl k;exact .inr (.inl k)
  obtain ⟨u,r,l⟩:=hl i x v hi e1 vis
  refine wpAny_AugAssign_Name ?_
  have go:wpAny (model X.prog X.w) X.A (eval e X.env) (fun w s₂=>wpAny (model X.prog X.w) X.A (inplaceOp op u w) (fun r s₃=>wpAny (model X.prog X.w) X.A (storeName X.env x r) (fun _=>SP X pins D .next) X.xe s₃) X.xe s₂) X.xe s:=by
    refine thn (he pins s σ H _ I h) fun w s1 ⟨y,H1,I1,r1,q1⟩=>?_
    refine thn (ho pins s1 σ H1 v y u w _ I1 r r1 q1) fun z s2 ⟨zv,H2,I2,r2,q2⟩=>?_
    exact ya3 I2 hN hi hx r2 (fun s3 I3=>⟨_,H2,I3,q2⟩) hf
  rcases l with ⟨hk,hm⟩ | ⟨hk,c,hc,hcell⟩
  · exact wpAny_loadName_local I.ok.kind hk hn hm go
  · rcases hk with hk|hk
    · exact wpAny_loadName_cell I.ok.kind hk hc hcell go
    · rcases hx with k|k
      · have:X.env.scope.names.lookup x=some .free:=hk
        rw [k] at this;cases this
      · have:X.env.scope.names.lookup x=some .free:=hk
        rw [k] at this;cases this
end
section
variable {X:Cx} {pos:Pos}
noncomputable def yfm (c:TT) (tb:TS):TS:=fun D σ H=>∃W:Nat→St→Hp→Prop,(∃m,W m σ H)∧∀m σ H,W m σ H→
  c σ H fun b H1=>if b=true then ∃N:St→Hp→Prop,(∀σ' H',N σ' H'→∃m',m'<m∧W m' σ' H')∧tb { D with nx:=N,ct:=N,bk:=D.nx } σ H1 else D.nx σ H1
theorem yax {c:Expr} {body:List Stmt} {tc:TT} {tb:TS} (hp:PassesOwn (model X.prog X.w) X.A X.env X.xe) (hc:PT X c tc) (hb:PSs X body tb):PS X (.While c body [] pos) (yfm tc tb):=by
  intro pins s σ H D I h
  obtain ⟨W,⟨m0,w0⟩,turn⟩:=h
  refine wpAny_While (codeAny_whileLoop (fun n s'=>∃σ' H',Inv X pins σ' H' s'∧W n σ' H') ?_ m0 ⟨σ,H,I,w0⟩)
  rintro n s1 ⟨σ1,H1,I1,w1⟩
  refine wpAny_passesOwn hp (thn (hc pins s1 σ1 H1 _ I1 (turn n σ1 H1 w1)) fun b s2 ⟨H2,I2,q2⟩=>?_)
  cases b with
  | true =>
    obtain ⟨N,hN,q2⟩:=q2
    rw [if_pos rfl]
    refine wpAny_passesOwn hp (thn (hb pins s2 σ1 H2 _ I2 q2) fun f s3 q3=>?_)
    cases f with
    | next =>
      obtain ⟨σ3,H3,I3,n3⟩:=q3
      obtain ⟨m',hm,w3⟩:=hN σ3 H3 n3
      exact ⟨m',hm,σ3,H3,I3,w3⟩
    | cont =>
      obtain ⟨σ3,H3,I3,n3⟩:=q3
      obtain ⟨m',hm,w3⟩:=hN σ3 H3 n3
      exact ⟨m',hm,σ3,H3,I3,w3⟩
    | brk=>exact q3
    | ret v=>exact q3
  | false =>
    rw [if_neg Bool.false_ne_true]
    exact wpAny_execs_nil ⟨σ1,H2,I2,q2⟩
end
structure It where
  go:Nat→Hp→Prop
  yld:Nat→Hp→V→Hp→Prop
  stop:Nat→Hp→Prop
noncomputable def FpOk (X:Cx) (pins:List (Addr×Obj)) (H:Hp) (b:Addr):Prop :=
  H b=none∧b≠X.env.locals∧b∉X.fs∧(b∈X.ex∨X.s₀.heap.objs.size≤b)∧(∀x c,X.env.cells.lookup x=some c→c≠b)∧∀p∈X.pn++pins,p.1≠b
theorem Inv.fpOk {X:Cx} {pins:List (Addr×Obj)} {σ:St} {H H':Hp} {s:Shared} {b:Addr} (I:Inv X pins σ H s) (hb:s.heap.objs.size≤b) (hn:H' b=none):FpOk X pins H' b:=by
  refine ⟨hn,Nat.ne_of_gt (Nat.lt_of_lt_of_le I.lt hb),I.nofs hb,.inr (Nat.le_trans I.sz hb),fun x c e z=>?_,fun p hp z=>?_⟩
  · obtain ⟨v,q⟩:=I.cell x c e
    exact absurd (Nat.lt_of_lt_of_le q.lt (by rw [z];exact hb)) (Nat.lt_irrefl _)
  · exact absurd (Nat.lt_of_lt_of_le (Heap.lt_size (I.pin p hp).1) (by rw [z];exact hb)) (Nat.lt_irrefl _)
structure Turn (P:Program) (w:World) (K:PySem.W.Frag) (tg:Expr) (J:It) (fp:List Addr) (it:Addr) (tn:Nat→Heap→Prop):Prop where
  mem:it∈fp
  obj:∀i h,tn i h→∀b∈fp,∃o,h.get? b=some o∧∀v,o.data≠.cell v
  keep:∀i h h',tn i h→(∀b∈fp,∀o,h.get? b=some o→h'.get? b=some o)→tn i h'
  item:∀(X:Cx),X.prog=P→X.w=w→X.K=K→X.calm=true→∀(i:Nat) (pins:List (Addr×Obj)) (s:Shared) (σ:St) (H:Hp) (E:Value→Shared→Prop),Inv X pins σ H s→(∀b∈fp,FpOk X pins H b)→tn i s.heap→J.go i H→
    wpAny (model P w) X.A (pyNext (.ref it)) (fun r s1=>∃u,r=some u∧
      wpAny (model P w) X.A (letOwnedTupleGo tg (.ref it) u) (fun _ s2=>∃x H',Inv X pins σ H' s2∧RelV x u∧J.yld i H x H'∧tn (i+1) s2.heap∧∀b∈fp,H' b=none) E s1) E s
  done:∀(X:Cx),X.prog=P→X.w=w→X.K=K→X.calm=true→∀(i:Nat) (pins:List (Addr×Obj)) (s:Shared) (σ:St) (H:Hp) (E:Value→Shared→Prop),Inv X pins σ H s→(∀b∈fp,FpOk X pins H b)→tn i s.heap→J.stop i H→
    wpAny (model P w) X.A (pyNext (.ref it)) (fun r s1=>r=none∧Inv X pins σ H s1) E s
  self:∀(A:Around) (i:Nat) (s:Shared) (Q:Value→Shared→Prop) (E:Value→Shared→Prop),tn i s.heap→Q (.ref it) s→wpAny (model P w) A (pyIter (.ref it)) Q E s
noncomputable abbrev TI:=St→Hp→(It→Hp→Prop)→Prop
noncomputable def PIE (X:Cx) (pins:List (Addr×Obj)) (σ:St) (tg:Expr) (R:It→Hp→Prop) (itv:Value) (s2:Shared):Prop :=
  ∃(it:Addr) (fp:List Addr) (tn:Nat→Heap→Prop) (J:It) (H':Hp),itv = .ref it∧Inv X pins σ H' s2∧Turn X.prog X.w X.K tg J fp it tn∧tn 0 s2.heap∧(∀b∈fp,FpOk X pins H' b)∧R J H'
noncomputable def PI (X:Cx) (tg iter:Expr) (wi:TI):Prop :=
  ∀(pins:List (Addr×Obj)) (s:Shared) (σ:St) (H:Hp) (R:It→Hp→Prop),Inv X pins σ H s→wi σ H R→
    wpAny (model X.prog X.w) X.A (eval iter X.env) (fun v s1=>wpAny (model X.prog X.w) X.A (pyIter v) (PIE X pins σ tg R) X.xe s1) X.xe s
theorem yeO {M:Model} {A:Around} {E:Value→Shared→Prop} {s:Shared} {tg:Expr} {it:Addr} {u:Value} {o:Obj} {n:String} {vs:Array Value} {Q:Unit→Shared→Prop} (ho:s.heap.get? it=some o) (hc:o.cls = .type n) (hd:o.data = .fields vs)
    (hn:["enumerate","zip","dict_itemiterator","dict_reverseitemiterator","odict_iterator","itertools.zip_longest","itertools.pairwise"].contains n=false) (hQ:Q () s):wpAny M A (letOwnedTupleGo tg (.ref it) u) Q E s:=by
  unfold letOwnedTupleGo
  cases tg <;> first
    | exact wpAny_pure hQ
    | (cases u <;> first
        | exact wpAny_pure hQ
        | (refine wpAny_bind (wpAny_load ho ?_)
           rw [hc,hd]
           show wpAny M A (if (["enumerate","zip","dict_itemiterator","dict_reverseitemiterator","odict_iterator","itertools.zip_longest","itertools.pairwise"].contains n&&vs[0]?==some (rawInt _))=true then _ else _) Q E s
           rw [if_neg (by intro h;rw [hn,Bool.false_and] at h;cases h)]
           exact wpAny_pure hQ))
noncomputable def Itl (K:PySem.W.Frag) (a:Addr):It :=
  ⟨fun i H=>∃xs x,SqL K H a xs∧xs[i]?=some x,fun i H x H'=>H'=H∧∀xs,SqL K H a xs→xs[i]?=some x,fun i H=>∃xs,SqL K H a xs∧xs.length≤i⟩
noncomputable def Itt (K:PySem.W.Frag) (a:Addr):It :=
  ⟨fun i H=>∃xs x,SqT K H a xs∧xs[i]?=some x,fun i H x H'=>H'=H∧∀xs,SqT K H a xs→xs[i]?=some x,fun i H=>∃xs,SqT K H a xs∧xs.length≤i⟩
noncomputable def Itr (lo:Int) (n:Nat):It:=⟨fun i _=>i<n,fun i H x H'=>H'=H∧x = .int (lo+i),fun i _=>n≤i⟩
theorem zej {P:Program} {w:World} {K:PySem.W.Frag} {tg:Expr} (a it:Addr):Turn P w K tg (Itl K a) [it] it (fun i h=>h.IsListIter it a i) where
  mem:=by simp
  obj:=fun i h st b hb=>by
    have e:b=it:=by simpa using hb
    subst e
    obtain ⟨o,e,c,d⟩:=st
    exact ⟨o,e,fun v z=>by rw [d] at z;cases z⟩
  keep:=fun i h h' st k=>st.at fun o e=>k it (by simp) o e
  item:=by
    intro X hP hw hK hc i pins s σ H E I hf st hg
    subst hP hw hK
    obtain ⟨xs,x,hq,hx⟩:=hg
    obtain ⟨its,rv,p,hz⟩:=I.list hq
    obtain ⟨u,hu,ru⟩:=rv.get hx
    obtain ⟨f0,f1,f2,f3,f4,f5⟩:=hf it (by simp)
    refine wpAny_pyNext_list_item st p.isList (x:=u) (by simpa using hu) fun h' st' sb=>?_
    have I1:Inv X pins σ H { s with heap:=h' }:=I.turned (t':=s.toks) (fun b o hb e=>(sb.2 b hb).trans e) f0 f1 f3 f4 f5
    obtain ⟨o,e,c,d⟩:=id st'
    exact ⟨u,rfl,yeO (s:={ s with heap:=h' }) e c d (by decide) ⟨x,H,I1,ru,⟨rfl,fun ys hy=>by rw [I.list_inj hy hq];exact hx⟩,st',fun b hb=>(hf b hb).1⟩⟩
  done:=by
    intro X hP hw hK hc i pins s σ H E I hf st hg
    subst hP hw hK
    obtain ⟨xs,hq,hx⟩:=hg
    obtain ⟨its,rv,p,hz⟩:=I.list hq
    obtain ⟨f0,f1,f2,f3,f4,f5⟩:=hf it (by simp)
    have hl:=rv.length
    exact wpAny_pyNext_list_end (I.ok.hd hc) st p.isList (by simp;omega) fun h' eb=>⟨rfl,I.turned (t':=s.toks) (fun b o hb e=>eb b o hb e) f0 f1 f3 f4 f5⟩
  self:=fun _ _ _ _ _ st h=>wpAny_pyIter_listiter st h
theorem zd1 {P:Program} {w:World} {K:PySem.W.Frag} {tg:Expr} (a it:Addr):Turn P w K tg (Itt K a) [it] it (fun i h=>h.IsTupleIter it a i) where
  mem:=by simp
  obj:=fun i h st b hb=>by
    have e:b=it:=by simpa using hb
    subst e
    obtain ⟨o,e,c,d⟩:=st
    exact ⟨o,e,fun v z=>by rw [d] at z;cases z⟩
  keep:=fun i h h' st k=>st.at fun o e=>k it (by simp) o e
  item:=by
    intro X hP hw hK hc i pins s σ H E I hf st hg
    subst hP hw hK
    obtain ⟨xs,x,hq,hx⟩:=hg
    obtain ⟨its,rv,p,hz⟩:=I.tuple hq
    obtain ⟨u,hu,ru⟩:=rv.get hx
    obtain ⟨f0,f1,f2,f3,f4,f5⟩:=hf it (by simp)
    refine wpAny_pyNext_tuple_item st (show s.heap.IsTuple a its.toArray from p) (x:=u) (by simpa using hu) fun h' st' sb=>?_
    have I1:Inv X pins σ H { s with heap:=h' }:=I.turned (t':=s.toks) (fun b o hb e=>(sb.2 b hb).trans e) f0 f1 f3 f4 f5
    obtain ⟨o,e,c,d⟩:=id st'
    exact ⟨u,rfl,yeO (s:={ s with heap:=h' }) e c d (by decide) ⟨x,H,I1,ru,⟨rfl,fun ys hy=>by rw [I.tuple_inj hy hq];exact hx⟩,st',fun b hb=>(hf b hb).1⟩⟩
  done:=by
    intro X hP hw hK hc i pins s σ H E I hf st hg
    subst hP hw hK
    obtain ⟨xs,hq,hx⟩:=hg
    obtain ⟨its,rv,p,hz⟩:=I.tuple hq
    obtain ⟨f0,f1,f2,f3,f4,f5⟩:=hf it (by simp)
    have hl:=rv.length
    exact wpAny_pyNext_tuple_end (I.ok.hd hc) st (show s.heap.IsTuple a its.toArray from p) (by simp;omega) fun h' eb=>⟨rfl,I.turned (t':=s.toks) (fun b o hb e=>eb b o hb e) f0 f1 f3 f4 f5⟩
  self:=fun _ _ _ _ _ st h=>wpAny_pyIter_tupleiter st h
theorem zd0 {P:Program} {w:World} {K:PySem.W.Frag} {tg:Expr} (it:Addr) (lo:Int) (n:Nat):Turn P w K tg (Itr lo n) [it] it (fun i h=>IsRangeIter h it (lo+(i:Nat)*1) ((n:Int)-(i:Nat)) 1) where
  mem:=by simp
  obj:=fun i h st b hb=>by
    have e:b=it:=by simpa using hb
    subst e
    exact ⟨_,st,fun v z=>by
      have z':Data.fields _=Data.cell v:=z
      cases z'⟩
  keep:=fun i h h' st k=>k it (by simp) _ st
  item:=by
    intro X hP hw hK hc i pins s σ H E I hf st hg
    subst hP hw hK
    obtain ⟨f0,f1,f2,f3,f4,f5⟩:=hf it (by simp)
    have W:=Walks.range (prog:=X.prog) (w:=X.w) (I.ok.hd hc) it lo 1 n
    refine W.item i s _ _ hg st fun v h' tk hv st' kk=>?_
    obtain ⟨t,rfl⟩:=hv
    have I1:Inv X pins σ H { s with heap:=h',toks:=tk }:=I.turned (fun b o hb e=>kk b o (by simpa using hb) e) f0 f1 f3 f4 f5
    refine ⟨_,rfl,yeO (s:={ s with heap:=h',toks:=tk }) (n:="range_iterator") st' rfl rfl (by decide) ⟨.int (lo+i),H,I1,⟨t,?_⟩,⟨rfl,rfl⟩,st',fun b hb=>(hf b hb).1⟩⟩
    rw [Int.mul_one]
  done:=by
    intro X hP hw hK hc i pins s σ H E I hf st hg
    subst hP hw hK
    obtain ⟨f0,f1,f2,f3,f4,f5⟩:=hf it (by simp)
    exact wpAny_pyNext_range_end (I.ok.hd hc) st (by have:n≤i:=hg;omega) fun h' eb=>⟨rfl,I.turned (t':=s.toks) (fun b o hb e=>eb b o hb e) f0 f1 f3 f4 f5⟩
  self:=fun _ _ _ _ _ st h=>wpAny_pyIter_rangeiter st h
end L2
namespace L2
open PySem PySem.Spec PyProof.Rows
section
variable {X:Cx} {tg:Expr}
noncomputable def ygk (K:PySem.W.Frag) (tl:TE):TI:=fun σ H R=>tl σ H fun x H1=>∃a,x = .ref a∧(∃xs,SqL K H1 a xs)∧R (Itl K a) H1
noncomputable def iTup (K:PySem.W.Frag) (tl:TE):TI:=fun σ H R=>tl σ H fun x H1=>∃a,x = .ref a∧(∃xs,SqT K H1 a xs)∧R (Itt K a) H1
theorem za0 {l:Expr} {tl:TE} (hl:PE X l tl):PI X tg l (ygk X.K tl):=by
  intro pins s σ H R I h
  refine thn (hl pins s σ H _ I h) fun v s1 ⟨x,H1,I1,r1,q1⟩=>?_
  obtain ⟨a,e,⟨xs,hq⟩,q⟩:=q1
  subst e
  cases r1
  obtain ⟨its,rv,p,hz⟩:=I1.list hq
  refine wpAny_pyIter_list p.isList ?_
  refine ⟨s1.heap.objs.size,[s1.heap.objs.size],_,_,H1,rfl,I1.kept (t':=s1.toks) fun b o e=>Heap.get?_push_of_some _ e,zej a _,⟨_,Heap.get?_push_size _ rfl,rfl,rfl⟩,fun b hb=>?_,q⟩
  have e:b=s1.heap.objs.size:=by simpa using hb
  subst e
  exact I1.fpOk (Nat.le_refl _) (I1.hok.fresh (Nat.le_refl _))
theorem zfS {l:Expr} {tl:TE} (hl:PE X l tl):PI X tg l (iTup X.K tl):=by
  intro pins s σ H R I h
  refine thn (hl pins s σ H _ I h) fun v s1 ⟨x,H1,I1,r1,q1⟩=>?_
  obtain ⟨a,e,⟨xs,hq⟩,q⟩:=q1
  subst e
  cases r1
  obtain ⟨its,rv,p,hz⟩:=I1.tuple hq
  refine wpAny_pyIter_tuple (show s1.heap.IsTuple a its.toArray from p) ?_
  refine ⟨s1.heap.objs.size,[s1.heap.objs.size],_,_,H1,rfl,I1.kept (t':=s1.toks) fun b o e=>Heap.get?_push_of_some _ e,zd1 a _,⟨_,Heap.get?_push_size _ rfl,rfl,rfl⟩,fun b hb=>?_,q⟩
  have e:b=s1.heap.objs.size:=by simpa using hb
  subst e
  exact I1.fpOk (Nat.le_refl _) (I1.hok.fresh (Nat.le_refl _))
theorem ydE {pins:List (Addr×Obj)} {σ:St} {H:Hp} {s:Shared} {R:It→Hp→Prop} {E:Value→Shared→Prop} {lo hi:Int} {t u v:Tok} {tk:Nat} (I:Inv X pins σ H s) (h1 : -(2^62)≤lo) (h2:lo<2^62) (h3 : -(2^62)≤hi) (h4:hi<2^62)
    (q:R (Itr lo (hi-lo).toNat) H):wpAny (model X.prog X.w) X.A (pyIter (.ref s.heap.objs.size)) (PIE X pins σ tg R) E { s with heap:=s.heap.push { cls:=.type "range",data:=.fields #[.int lo t,.int hi u,.int 1 v] },toks:=tk }:=by
  refine wpAny_pyIter_range (IsRange.new ..) (small_one h1 h2 h3 h4) ?_
  have I1:Inv X pins σ H { s with heap:=s.heap.push { cls:=.type "range",data:=.fields #[.int lo t,.int hi u,.int 1 v] },toks:=tk }:=I.kept fun b o e=>Heap.get?_push_of_some _ e
  refine ⟨(s.heap.push { cls:=.type "range",data:=.fields #[.int lo t,.int hi u,.int 1 v] }).objs.size,[(s.heap.push { cls:=.type "range",data:=.fields #[.int lo t,.int hi u,.int 1 v] }).objs.size],_,_,H,rfl,
    I1.kept (t':=tk) fun b o e=>Heap.get?_push_of_some _ e,zd0 _ lo (hi-lo).toNat,?_,fun b hb=>?_,q⟩
  · have e1:lo+((0:Nat):Int)*1=lo:=by simp
    have e2:(((hi-lo).toNat:Nat):Int)-((0:Nat):Int)=Builtin.Range.rangeSize lo hi 1:=by rw [rangeSize_one];split <;> omega
    show IsRangeIter _ _ (lo+((0:Nat):Int)*1) ((((hi-lo).toNat:Nat):Int)-((0:Nat):Int)) 1
    rw [e1,e2]
    exact Heap.get?_push_size _ rfl
  · have e:b=(s.heap.push { cls:=.type "range",data:=.fields #[.int lo t,.int hi u,.int 1 v] }).objs.size:=by simpa using hb
    subst e
    exact I1.fpOk (Nat.le_refl _) (I1.hok.fresh (Nat.le_refl _))
noncomputable def zgb (ta:TA):TI:=fun σ H R=>ta σ H fun vs H1=>∃j:Int,vs=[.int j]∧-(2^62)≤j∧j<2^62∧R (Itr 0 j.toNat) H1
noncomputable def zge (ta:TA):TI:=fun σ H R=>ta σ H fun vs H1=>∃i j:Int,vs=[.int i,.int j]∧(-(2^62)≤i∧i<2^62∧-(2^62)≤j∧j<2^62)∧R (Itr i (j-i).toNat) H1
theorem yay {a:Expr} {ta:TA} {p pos:Pos} (hg:Gl X "range") (hm:X.mg "range"=none) (ha:PA X [a] ta) (hs:starEach [a] X.env=[(false,eval a X.env)]:=by rfl):PI X tg (.Call (.Name "range" p) [a] [] pos) (zgb ta):=by
  intro pins s σ H R I h
  refine Call_ (zbz I hg hm boot_range (PyProof.Rows.callWith_type1 (thn (ha pos pins s σ H _ I h) fun us s1 ⟨vs,H1,I1,r1,q1⟩=>?_) hs rfl))
  obtain ⟨j,e,q1,q2,q⟩:=q1
  subst e
  cases r1 with
  | cons r rr =>
    cases rr
    obtain ⟨t,rfl⟩:=r
    exact call_range_1 (ydE I1 (by omega) (by omega) q1 q2 (by simpa using q))
theorem ya7 {a b:Expr} {ta:TA} {p pos:Pos} (hg:Gl X "range") (hm:X.mg "range"=none) (ha:PA X [a,b] ta) (hs:starEach [a,b] X.env=[(false,eval a X.env),(false,eval b X.env)]:=by rfl) (hs2:starEach [b] X.env=[(false,eval b X.env)]:=by rfl) :
    PI X tg (.Call (.Name "range" p) [a,b] [] pos) (zge ta):=by
  intro pins s σ H R I h
  refine Call_ (zbz I hg hm boot_range (PyProof.Rows.callWith_type1 (thn (ha pos pins s σ H _ I h) fun us s1 ⟨vs,H1,I1,r1,q1⟩=>?_) (by rw [hs,hs2]) (by rw [hs2];rfl)))
  obtain ⟨i,j,e,⟨q1,q2,q3,q4⟩,q⟩:=q1
  subst e
  cases r1 with
  | cons r rr =>
    cases rr with
    | cons r' rr =>
      cases rr
      obtain ⟨t,rfl⟩:=r
      obtain ⟨t',rfl⟩:=r'
      exact call_range_2 (ydE I1 q1 q2 q3 q4 q)
noncomputable def tFor (wi:TI) (g:TG) (tb:TS):TS:=fun D σ H=>wi σ H fun J H1=>∃W:Nat→Nat→St→Hp→Prop,(∃m,W 0 m σ H1)∧∀i m σ H,W i m σ H→
  (J.stop i H∧D.nx σ H)∨(J.go i H∧∃N:St→Hp→Prop,(∀σ' H',N σ' H'→∃m',m'<m∧W (i+1) m' σ' H')∧∀x H',J.yld i H x H'→g x σ H' fun σ2 H2=>tb { D with nx:=N,ct:=N,bk:=D.nx } σ2 H2)
noncomputable def ybT (fp:List Addr) (h:Heap):List (Addr×Obj):=fp.filterMap fun b=>(h.get? b).map fun o=>(b,o)
theorem za6 {fp:List Addr} {h:Heap} {b:Addr} {o:Obj} (hb:b∈fp) (e:h.get? b=some o):(b,o)∈ybT fp h:=List.mem_filterMap.mpr ⟨b,hb,by rw [e];rfl⟩
theorem zc3 {fp:List Addr} {h:Heap} {p:Addr×Obj} (hp:p∈ybT fp h):p.1∈fp∧h.get? p.1=some p.2:=by
  obtain ⟨b,hb,e⟩:=List.mem_filterMap.mp hp
  cases q:h.get? b with
  | none=>rw [q] at e;cases e
  | some o =>
    rw [q] at e
    have e':(b,o)=p:=Option.some.inj e
    subst e'
    exact ⟨hb,q⟩
theorem Inv.pinned {pins:List (Addr×Obj)} {σ:St} {H:Hp} {s:Shared} {fp:List Addr} (I:Inv X pins σ H s) (hf:∀b∈fp,FpOk X pins H b) (ho:∀b∈fp,∃o,s.heap.get? b=some o∧∀v,o.data≠.cell v):Inv X (pins++ybT fp s.heap) σ H s :=
  I.pins_of fun p hp=>(List.mem_append.mp hp).elim (fun z=>I.pin p (List.mem_append_right _ z)) fun z=>by
    obtain ⟨hb,e⟩:=zc3 z
    obtain ⟨f0,f1,f2,_⟩:=hf p.1 hb
    obtain ⟨o,e',d⟩:=ho p.1 hb
    rw [e] at e';cases e'
    exact ⟨e,f0,f1,f2,d⟩
theorem Inv.unpinned {pins pl:List (Addr×Obj)} {σ:St} {H:Hp} {s:Shared} (I:Inv X (pins++pl) σ H s):Inv X pins σ H s:=I.pins_of fun p hp=>I.pin p (List.mem_append_right _ (List.mem_append_left _ hp))
theorem zaz {iter:Expr} {body:List Stmt} {wi:TI} {g:TG} {tb:TS} {pos:Pos} (hp:PassesOwn (model X.prog X.w) X.A X.env X.xe) (hc:X.calm=true) (hi:PI X tg iter wi) (hg:PG X tg g) (hb:PSs X body tb)
    (hs:∀x,foldedSetIterable iter X.env x=pure x:=by intro _;rfl):PS X (.For tg iter body [] pos) (tFor wi g tb):=by
  intro pins s σ H D I h
  refine wpAny_For (thn (hi pins s σ H _ I h) fun v s1 h1=>thn h1 fun itv s2 h2=>?_) hs
  obtain ⟨it,fp,tn,J,H2,e,I2,T,st2,f2,W,⟨m0,w0⟩,turn⟩:=h2
  subst e
  have stat:∀ {H':Hp},(∀b∈fp,H' b=none)→∀b∈fp,FpOk X pins H' b:=fun hn b hb=>⟨hn b hb,(f2 b hb).2⟩
  refine codeAny_forLoop_any (fun n s'=>∃i σ' H',Inv X pins σ' H' s'∧tn i s'.heap∧(∀b∈fp,H' b=none)∧W i n σ' H') ?_ m0 ⟨0,σ,H2,I2,st2,fun b hb=>(f2 b hb).1,w0⟩
  rintro n s3 ⟨i,σ3,H3,I3,st3,fr3,w3⟩
  rcases turn i n σ3 H3 w3 with ⟨stop,qn⟩ | ⟨go,N,hN,step⟩
  · refine wpAny_passesOwn hp (thn (T.done X rfl rfl rfl hc i pins s3 σ3 H3 X.xe I3 (stat fr3) st3 stop) fun r s4 ⟨hr,I4⟩=>?_)
    subst hr
    exact wpAny_execs_nil ⟨σ3,H3,I4,qn⟩
  · refine wpAny_passesOwn hp (thn (T.item X rfl rfl rfl hc i pins s3 σ3 H3 X.xe I3 (stat fr3) st3 go) fun r s4 ⟨u,hr,h4⟩=>?_)
    subst hr
    refine wpAny_passesOwn hp (thn h4 fun _ s5 ⟨x,H5,I5,r5,y5,st5,fr5⟩=>?_)
    have I5':=I5.pinned (stat fr5) (T.obj _ _ st5)
    refine wpAny_passesOwn hp (thn (hg _ s5 σ3 H5 x u _ I5' r5 (step x H5 y5)) fun _ s6 ⟨σ6,H6,I6,q6⟩=>?_)
    refine wpAny_passesOwn hp (thn (hb _ s6 σ6 H6 _ I6 q6) fun f s7 q7=>?_)
    have again:∀ {σ7:St} {H7:Hp},Inv X (pins++ybT fp s5.heap) σ7 H7 s7→N σ7 H7→∃m,m<n∧∃i σ' H',Inv X pins σ' H' s7∧tn i s7.heap∧(∀b∈fp,H' b=none)∧W i m σ' H':=fun {σ7 H7} I7 n7=>by
      obtain ⟨m',hm,w7⟩:=hN σ7 H7 n7
      refine ⟨m',hm,i+1,σ7,H7,I7.unpinned,T.keep _ _ _ st5 fun b hb o e=>(I7.pin (b,o) (List.mem_append_right _ (List.mem_append_right _ (za6 hb e)))).1,fun b hb=>?_,w7⟩
      obtain ⟨o,e,d⟩:=T.obj _ _ st5 b hb
      exact (I7.pin (b,o) (List.mem_append_right _ (List.mem_append_right _ (za6 hb e)))).2.1
    cases f with
    | next=>obtain ⟨σ7,H7,I7,n7⟩:=q7;exact again I7 n7
    | cont=>obtain ⟨σ7,H7,I7,n7⟩:=q7;exact again I7 n7
    | brk=>obtain ⟨σ7,H7,I7,q7⟩:=q7;exact ⟨σ7,H7,I7.unpinned,q7⟩
    | ret v=>obtain ⟨x7,σ7,H7,I7,r7,q7⟩:=q7;exact ⟨x7,σ7,H7,I7.unpinned,r7,q7⟩
end
theorem zdR {K:PySem.W.Frag} {a:Addr} {xs:List V} {g:TG} {tb:TS} {D:Ends} {σ:St} {H:Hp} (Pv:Nat→St→Hp→Prop) (h0:Pv 0 σ H) (hl:∀i σ H,i≤xs.length→Pv i σ H→SqL K H a xs)
    (hs:∀i x σ H,xs[i]?=some x→Pv i σ H→g x σ H fun σ2 H2=>tb { D with nx:=Pv (i+1),ct:=Pv (i+1),bk:=D.nx } σ2 H2) (hd:∀σ H,Pv xs.length σ H→D.nx σ H) :
    ∃W:Nat→Nat→St→Hp→Prop,(∃m,W 0 m σ H)∧∀i m σ H,W i m σ H→
      ((Itl K a).stop i H∧D.nx σ H)∨((Itl K a).go i H∧∃N:St→Hp→Prop,(∀σ' H',N σ' H'→∃m',m'<m∧W (i+1) m' σ' H')∧∀x H',(Itl K a).yld i H x H'→g x σ H' fun σ2 H2=>tb { D with nx:=N,ct:=N,bk:=D.nx } σ2 H2):=by
  refine ⟨fun i m σ H=>m=xs.length-i∧i≤xs.length∧Pv i σ H,⟨xs.length,by simp,Nat.zero_le _,h0⟩,?_⟩
  rintro i m σ H ⟨rfl,hi,p⟩
  have q:=hl i σ H hi p
  by_cases hlt:i<xs.length
  · refine .inr ⟨⟨xs,xs[i],q,by simp [hlt]⟩,Pv (i+1),fun σ' H' p'=>⟨xs.length-(i+1),by omega,rfl,hlt,p'⟩,fun x H' y=>?_⟩
    obtain ⟨e,y⟩:=y
    subst e
    exact hs i x σ _ (y xs q) p
  · have e:i=xs.length:=by omega
    subst e
    exact .inl ⟨⟨xs,q,Nat.le_refl _⟩,hd σ H p⟩
theorem zaY {lo:Int} {n:Nat} {g:TG} {tb:TS} {D:Ends} {σ:St} {H:Hp} (Pv:Nat→St→Hp→Prop) (h0:Pv 0 σ H)
    (hs:∀i σ H,i<n→Pv i σ H→g (.int (lo+i)) σ H fun σ2 H2=>tb { D with nx:=Pv (i+1),ct:=Pv (i+1),bk:=D.nx } σ2 H2) (hd:∀σ H,Pv n σ H→D.nx σ H) :
    ∃W:Nat→Nat→St→Hp→Prop,(∃m,W 0 m σ H)∧∀i m σ H,W i m σ H→
      ((Itr lo n).stop i H∧D.nx σ H)∨((Itr lo n).go i H∧∃N:St→Hp→Prop,(∀σ' H',N σ' H'→∃m',m'<m∧W (i+1) m' σ' H')∧∀x H',(Itr lo n).yld i H x H'→g x σ H' fun σ2 H2=>tb { D with nx:=N,ct:=N,bk:=D.nx } σ2 H2):=by
  refine ⟨fun i m σ H=>m=n-i∧i≤n∧Pv i σ H,⟨n,by simp,Nat.zero_le _,h0⟩,?_⟩
  rintro i m σ H ⟨rfl,hi,p⟩
  by_cases hlt:i<n
  · refine .inr ⟨hlt,Pv (i+1),fun σ' H' p'=>⟨n-(i+1),by omega,rfl,hlt,p'⟩,fun x H' y=>?_⟩
    obtain ⟨e,y⟩:=y
    subst e y
    exact hs i σ _ hlt p
  · have e:i=n:=by omega
    subst e
    exact .inl ⟨Nat.le_refl _,hd σ H p⟩
end L2
namespace L2
open PySem PySem.Spec PyProof.Rows
noncomputable abbrev R2:=V→V→Hp→VK→Prop
noncomputable def OpR (X:Cx) (f:Value→Value→Sem Value) (r:R2):Prop :=
  ∀(pins:List (Addr×Obj)) (s:Shared) (σ:St) (H:Hp) (x y:V) (v u:Value) (Q:VK),Inv X pins σ H s→RelV x v→RelV y u→r x y H Q→
    wpAny (model X.prog X.w) X.A (f v u) (EP X pins σ Q) X.xe s
noncomputable def UnR (X:Cx) (f:Value→Sem Value) (r:V→Hp→VK→Prop):Prop :=
  ∀(pins:List (Addr×Obj)) (s:Shared) (σ:St) (H:Hp) (x:V) (v:Value) (Q:VK),Inv X pins σ H s→RelV x v→r x H Q→
    wpAny (model X.prog X.w) X.A (f v) (EP X pins σ Q) X.xe s
noncomputable def yaT (X:Cx) (f:Value) (r:List V→Hp→VK→Prop):Prop :=
  ∀(pins:List (Addr×Obj)) (s:Shared) (σ:St) (H:Hp) (xs:List V) (us:List Value) (Q:VK),Inv X pins σ H s→Vals xs us→r xs H Q→
    wpAny (model X.prog X.w) X.A (call f us) (EP X pins σ Q) X.xe s
noncomputable def tOp (r:R2) (ta tb:TE):TE:=fun σ H Q=>ta σ H fun x H1=>tb σ H1 fun y H2=>r x y H2 Q
noncomputable def tUn (r:V→Hp→VK→Prop) (ta:TE):TE:=fun σ H Q=>ta σ H fun x H1=>r x H1 Q
noncomputable def rI (C:Int→Int→Prop) (g:Int→Int→V):R2:=fun x y H Q=>∃i j,x = .int i∧y = .int j∧C i j∧Q (g i j) H
noncomputable def rI0 (g:Int→Int→V):R2:=fun x y H Q=>∃i j,x = .int i∧y = .int j∧Q (g i j) H
noncomputable def rU (g:Int→V):V→Hp→VK→Prop:=fun x H Q=>∃i,x = .int i∧Q (g i) H
section
variable {X:Cx} {a b c:Expr} {ta tb tc:TE} {pos:Pos}
theorem binT (ha:PE X a ta) (hb:PE X b tb) {pins:List (Addr×Obj)} {s:Shared} {σ:St} {H:Hp} {R:V→V→Hp→Prop} (I:Inv X pins σ H s)
    (h:ta σ H fun x H1=>tb σ H1 fun y H2=>R x y H2) {Q:Value→Shared→Prop} {f:Value→Value→Sem Value}
    (hf:∀v u s2 x y H2,Inv X pins σ H2 s2→RelV x v→RelV y u→R x y H2→wpAny (model X.prog X.w) X.A (f v u) Q X.xe s2) :
    wpAny (model X.prog X.w) X.A (eval a X.env) (fun v s₁=>wpAny (model X.prog X.w) X.A (eval b X.env) (fun u s₂=>wpAny (model X.prog X.w) X.A (f v u) Q X.xe s₂) X.xe s₁) X.xe s:=by
  refine thn (ha pins s σ H _ I h) fun v s1 ⟨x,H1,I1,r1,q1⟩=>?_
  refine thn (hb pins s1 σ H1 _ I1 q1) fun u s2 ⟨y,H2,I2,r2,q2⟩=>?_
  exact hf v u s2 x y H2 I2 r1 r2 q2
theorem zag {op:Operator} {r:R2} (ho:OpR X (binaryOp op) r) (ha:PE X a ta) (hb:PE X b tb):PE X (.BinOp a op b pos) (tOp r ta tb):=by
  intro pins s σ H Q I h
  exact wpAny_BinOp (binT ha hb I h fun v u s2 x y H2 I2 rx ry q=>ho pins s2 σ H2 x y v u Q I2 rx ry q)
theorem zcc {op:UnaryOp} {r:V→Hp→VK→Prop} (ho:UnR X (unaryOp op) r) (ha:PE X a ta):PE X (.UnaryOp op a pos) (tUn r ta):=by
  intro pins s σ H Q I h
  exact UnaryOp_ (thn (ha pins s σ H _ I h) fun v s1 ⟨x,H1,I1,r1,q1⟩=>ho pins s1 σ H1 x v Q I1 r1 q1)
theorem opI {f:Value→Value→Sem Value} {C:Int→Int→Prop} {g:Int→Int→Int}
    (rule:∀(i j:Int) (t u:Tok) (s:Shared) (Q:Value→Shared→Prop) (E:Value→Shared→Prop),C i j→Q (.int (g i j) s.toks) { s with toks:=s.toks+1 }→wpAny (model X.prog X.w) X.A (f (.int i t) (.int j u)) Q E s) :
    OpR X f (rI C fun i j=>.int (g i j)):=by
  intro pins s σ H x y v u Q I rx ry h
  obtain ⟨i,j,rfl,rfl,hc,q⟩:=h
  obtain ⟨t,rfl⟩:=rx
  obtain ⟨t',rfl⟩:=ry
  exact rule i j t t' s _ _ hc ⟨.int (g i j),H,I.tok _,⟨_,rfl⟩,q⟩
theorem opI0 {f:Value→Value→Sem Value} {g:Int→Int→Int}
    (rule:∀(i j:Int) (t u:Tok) (s:Shared) (Q:Value→Shared→Prop) (E:Value→Shared→Prop),Q (.int (g i j) s.toks) { s with toks:=s.toks+1 }→wpAny (model X.prog X.w) X.A (f (.int i t) (.int j u)) Q E s) :
    OpR X f (rI0 fun i j=>.int (g i j)):=by
  intro pins s σ H x y v u Q I rx ry h
  obtain ⟨i,j,rfl,rfl,q⟩:=h
  obtain ⟨t,rfl⟩:=rx
  obtain ⟨t',rfl⟩:=ry
  exact rule i j t t' s _ _ ⟨.int (g i j),H,I.tok _,⟨_,rfl⟩,q⟩
theorem opB0 {f:Value→Value→Sem Value} {g:Int→Int→Bool}
    (rule:∀(i j:Int) (t u:Tok) (s:Shared) (Q:Value→Shared→Prop) (E:Value→Shared→Prop),Q (.bool (g i j)) s→wpAny (model X.prog X.w) X.A (f (.int i t) (.int j u)) Q E s) :
    OpR X f (rI0 fun i j=>.bl (g i j)):=by
  intro pins s σ H x y v u Q I rx ry h
  obtain ⟨i,j,rfl,rfl,q⟩:=h
  obtain ⟨t,rfl⟩:=rx
  obtain ⟨t',rfl⟩:=ry
  exact rule i j t t' s _ _ ⟨.bl (g i j),H,I,rfl,q⟩
noncomputable def CPow (i j:Int):Prop:=0≤j∧j≤1000000∧i.natAbs<2^64
noncomputable def CMul (i j:Int):Prop:=(-(2^64)<i∧i<2^64)∨(-(2^64)<j∧j<2^64)
theorem CMul.ok {i j:Int} (h:CMul i j):IntMulOk i j:=by
  rcases h with ⟨h1,h2⟩ | ⟨h1,h2⟩
  · exact .of_left (intBits_le_64 h1 h2)
  · exact .of_right (intBits_le_64 h1 h2)
theorem zao:OpR X (binaryOp .Add) (rI0 fun i j=>.int (i+j)):=opI0 fun _ _ _ _ _ _ _ q=>add_int q
theorem zbA:OpR X (binaryOp .Sub) (rI0 fun i j=>.int (i-j)):=opI0 fun _ _ _ _ _ _ _ q=>sub_int q
theorem yaL:OpR X (binaryOp .Mult) (rI CMul fun i j=>.int (i*j)):=opI fun _ _ _ _ _ _ _ hc q=>mul_int q hc.ok
theorem zav:OpR X (binaryOp .Mod) (rI (fun _ j=>0<j) fun i j=>.int (i%j)):=opI fun i j _ _ _ _ _ hc q=>by
  have h1:(0:Int)<j:=hc
  exact mod_int' (by omega) (by rw [Int.fmod_eq_emod_of_nonneg i (by omega)];exact q)
theorem zdG:OpR X (binaryOp .Pow) (rI CPow fun i j=>.int (i^j.toNat)):=opI fun _ _ _ _ _ _ _ hc q=>pow_int_small hc.1 hc.2.1 hc.2.2 q
theorem yb1:OpR X (inplaceOp .Add) (rI0 fun i j=>.int (i+j)):=opI0 fun _ _ _ _ _ _ _ q=>iadd_int q
theorem zdw:OpR X (inplaceOp .Mult) (rI CMul fun i j=>.int (i*j)):=opI fun _ _ _ _ _ _ _ hc q=>imul_int q hc.ok
theorem unI {f:Value→Sem Value} {g:Int→Int}
    (rule:∀(i:Int) (t:Tok) (s:Shared) (Q:Value→Shared→Prop) (E:Value→Shared→Prop),Q (.int (g i) s.toks) { s with toks:=s.toks+1 }→wpAny (model X.prog X.w) X.A (f (.int i t)) Q E s) :
    UnR X f (rU fun i=>.int (g i)):=by
  intro pins s σ H x v Q I rx h
  obtain ⟨i,rfl,q⟩:=h
  obtain ⟨t,rfl⟩:=rx
  exact rule i t s _ _ ⟨.int (g i),H,I.tok _,⟨_,rfl⟩,q⟩
theorem zbu:UnR X (unaryOp .USub) (rU fun i=>.int (-i)):=unI fun _ _ _ _ _ q=>neg_int q
end
noncomputable def scal:V→V→Bool
  | .non,.non=>true | .non,.int _=>true | .int _,.non=>true | .non,.bl _=>true | .bl _,.non=>true | .non,.str _=>true | .str _,.non=>true
  | .int _,.int _=>true | .bl _,.bl _=>true | .str _,.str _=>true | .byt _,.byt _=>true
  | .int _,.str _=>true | .str _,.int _=>true | .bl _,.str _=>true | .str _,.bl _=>true
  | _,_=>false
noncomputable def rEq:R2:=fun x y H Q=>scal x y=true∧Q (.bl (decide (x=y))) H
noncomputable def rNe:R2:=fun x y H Q=>scal x y=true∧Q (.bl (!decide (x=y))) H
theorem zeD {i j:Int}:decide (V.int i=V.int j)=(i==j):=by
  rw [Bool.eq_iff_iff]
  simp
theorem yfc {i j:Bool}:decide (V.bl i=V.bl j)=(i==j):=by
  rw [Bool.eq_iff_iff]
  simp
theorem zeI {i j:Str}:decide (V.str i=V.str j)=(i==j):=by
  rw [Bool.eq_iff_iff]
  simp
theorem yd8 {i j:Array UInt8}:decide (V.byt i=V.byt j)=(i.toList==j.toList):=by
  rw [Bool.eq_iff_iff]
  cases i
  cases j
  simp
section
variable {X:Cx} {a b c:Expr} {ta tb tc:TE} {pos:Pos}
theorem yat {pins:List (Addr×Obj)} {σ:St} {H:Hp} {s:Shared} {Q:VK} {k k':Bool} (I:Inv X pins σ H s) (q:Q (.bl k) H) (e:k=k'):EP X pins σ Q (.bool k') s:=by
  subst e
  exact ⟨.bl k,H,I,rfl,q⟩
theorem yby:OpR X (compareOp .Eq) rEq:=by
  intro pins s σ H x y v u Q I rx ry h
  obtain ⟨hs,q⟩:=h
  cases x with
  | non =>
    cases rx
    cases y with
    | non=>cases ry;exact PySem.EqNone.eq_none_none (yat I q (by simp))
    | bl j=>cases ry;exact PySem.EqNone.eq_none_bool (yat I q (by simp))
    | int j=>obtain ⟨t',rfl⟩:=ry;exact PySem.EqNone.eq_none_int (yat I q (by simp))
    | str j=>obtain ⟨t',rfl⟩:=ry;exact PySem.EqNone.eq_none_str (yat I q (by simp))
    | _=>exact absurd (show false=true from hs) Bool.false_ne_true
  | bl i =>
    cases rx
    cases y with
    | non=>cases ry;exact PySem.EqNone.eq_bool_none (yat I q (by simp))
    | bl j=>cases ry;exact eq_bool (yat I q yfc)
    | str j=>obtain ⟨t',rfl⟩:=ry;exact PySem.EqMixed.eq_bool_str (yat I q (by simp))
    | _=>exact absurd (show false=true from hs) Bool.false_ne_true
  | int i =>
    obtain ⟨t,rfl⟩:=rx
    cases y with
    | non=>cases ry;exact PySem.EqNone.eq_int_none (yat I q (by simp))
    | int j=>obtain ⟨t',rfl⟩:=ry;exact eq_int (yat I q zeD)
    | str j=>obtain ⟨t',rfl⟩:=ry;exact PySem.EqMixed.eq_int_str (yat I q (by simp))
    | _=>exact absurd (show false=true from hs) Bool.false_ne_true
  | str i =>
    obtain ⟨t,rfl⟩:=rx
    cases y with
    | non=>cases ry;exact PySem.EqNone.eq_str_none (yat I q (by simp))
    | bl j=>cases ry;exact PySem.EqMixed.eq_str_bool (yat I q (by simp))
    | int j=>obtain ⟨t',rfl⟩:=ry;exact PySem.EqMixed.eq_str_int (yat I q (by simp))
    | str j=>obtain ⟨t',rfl⟩:=ry;exact eq_str (yat I q zeI)
    | _=>exact absurd (show false=true from hs) Bool.false_ne_true
  | byt i =>
    obtain ⟨t,rfl⟩:=rx
    cases y with
    | byt j=>obtain ⟨t',rfl⟩:=ry;exact PySem.W.eq_bytes (yat I q yd8)
    | _=>exact absurd (show false=true from hs) Bool.false_ne_true
  | _=>cases y <;> exact absurd (show false=true from hs) Bool.false_ne_true
theorem yc2:OpR X (compareOp .NotEq) rNe:=by
  intro pins s σ H x y v u Q I rx ry h
  obtain ⟨hs,q⟩:=h
  cases x with
  | non =>
    cases rx
    cases y with
    | non=>cases ry;exact PySem.EqNone.ne_none_none (yat I q (by simp))
    | bl j=>cases ry;exact PySem.EqNone.ne_none_bool (yat I q (by simp))
    | int j=>obtain ⟨t',rfl⟩:=ry;exact PySem.EqNone.ne_none_int (yat I q (by simp))
    | str j=>obtain ⟨t',rfl⟩:=ry;exact PySem.EqNone.ne_none_str (yat I q (by simp))
    | _=>exact absurd (show false=true from hs) Bool.false_ne_true
  | bl i =>
    cases rx
    cases y with
    | non=>cases ry;exact PySem.EqNone.ne_bool_none (yat I q (by simp))
    | bl j=>cases ry;exact ne_bool (yat I q (congrArg not yfc))
    | str j=>obtain ⟨t',rfl⟩:=ry;exact PySem.EqMixed.ne_bool_str (yat I q (by simp))
    | _=>exact absurd (show false=true from hs) Bool.false_ne_true
  | int i =>
    obtain ⟨t,rfl⟩:=rx
    cases y with
    | non=>cases ry;exact PySem.EqNone.ne_int_none (yat I q (by simp))
    | int j=>obtain ⟨t',rfl⟩:=ry;exact ne_int (yat I q (congrArg not zeD))
    | str j=>obtain ⟨t',rfl⟩:=ry;exact PySem.EqMixed.ne_int_str (yat I q (by simp))
    | _=>exact absurd (show false=true from hs) Bool.false_ne_true
  | str i =>
    obtain ⟨t,rfl⟩:=rx
    cases y with
    | non=>cases ry;exact PySem.EqNone.ne_str_none (yat I q (by simp))
    | bl j=>cases ry;exact PySem.EqMixed.ne_str_bool (yat I q (by simp))
    | int j=>obtain ⟨t',rfl⟩:=ry;exact PySem.EqMixed.ne_str_int (yat I q (by simp))
    | str j=>obtain ⟨t',rfl⟩:=ry;exact ne_str (yat I q (congrArg not zeI))
    | _=>exact absurd (show false=true from hs) Bool.false_ne_true
  | byt i =>
    obtain ⟨t,rfl⟩:=rx
    cases y with
    | byt j=>obtain ⟨t',rfl⟩:=ry;exact PySem.W.ne_bytes (yat I q (congrArg not yd8))
    | _=>exact absurd (show false=true from hs) Bool.false_ne_true
  | _=>cases y <;> exact absurd (show false=true from hs) Bool.false_ne_true
theorem ydY:OpR X (compareOp .Lt) (rI0 fun i j=>.bl (decide (i<j))):=opB0 fun _ _ _ _ _ _ _ q=>lt_int q
theorem ybW:OpR X (compareOp .LtE) (rI0 fun i j=>.bl (decide (i≤j))):=opB0 fun _ _ _ _ _ _ _ q=>le_int q
theorem zby:OpR X (compareOp .Gt) (rI0 fun i j=>.bl (decide (j<i))):=opB0 fun _ _ _ _ _ _ _ q=>gt_int q
theorem zfA:OpR X (compareOp .GtE) (rI0 fun i j=>.bl (decide (j≤i))):=opB0 fun _ _ _ _ _ _ _ q=>ge_int q
theorem yfG:OpR X (compareOp .IsNot) (fun x y H Q=>y = .non∧Q (.bl (!decide (x = .non))) H):=by
  intro pins s σ H x y v u Q I rx ry h
  obtain ⟨rfl,q⟩:=h
  cases ry
  refine isnot_none_gen (yat I q ?_)
  cases x <;> first
    | (cases rx;rfl)
    | (obtain ⟨t,rfl⟩:=rx;rfl)
theorem yai (b:Expr) {op:CmpOp} (h:op≠.In:=by decide) (h2:op≠.NotIn:=by decide):behindInMarks op b=false:=by
  have e1:(op==CmpOp.In)=false:=by cases op <;> first|rfl|exact absurd rfl h
  have e2:(op==CmpOp.NotIn)=false:=by cases op <;> first|rfl|exact absurd rfl h2
  cases b <;> simp [behindInMarks,e1,e2]
theorem zbP {op:CmpOp} {r:R2} (ho:OpR X (compareOp op) r) (ha:PE X a ta) (hb:PE X b tb) (hm:behindInMarks op b=false):PE X (.Compare a [op] [b] pos) (tOp r ta tb):=by
  intro pins s σ H Q I h
  exact wpAny_Compare1 (binT ha hb I h fun v u s2 x y H2 I2 rx ry q=>ho pins s2 σ H2 x y v u Q I2 rx ry q) hm
noncomputable def zfV (t:TE):TT:=fun σ H Q=>t σ H fun x H'=>∃k,x = .bl k∧Q k H'
theorem zah {op:CmpOp} {r:R2} (ho:OpR X (compareOp op) r) (ha:PE X a ta) (hb:PE X b tb) (hm:behindInMarks op b=false):PT X (.Compare a [op] [b] pos) (zfV (tOp r ta tb)):=by
  intro pins s σ H Q I h
  refine wpAny_isTrue_Compare1 (thn (ha pins s σ H _ I h) fun v s1 ⟨x,H1,I1,r1,q1⟩=>thn (hb pins s1 σ H1 _ I1 q1) fun u s2 ⟨y,H2,I2,r2,q2⟩ =>
    thn (ho pins s2 σ H2 x y v u _ I2 r1 r2 q2) fun c s3 ⟨z,H3,I3,r3,k,e,q3⟩=>?_) hm
  subst e
  cases r3
  exact wpAny_truthy_bool ⟨H3,I3,q3⟩
noncomputable def yfh (r r':R2) (ta tb tc:TE):TE:=fun σ H Q=>ta σ H fun x H1=>tb σ H1 fun y H2=>r x y H2 fun z H3=>∃k,z = .bl k∧
  (if k=true then tc σ H3 fun w' H4=>r' y w' H4 Q else Q (.bl false) H3)
theorem ydz {op op':CmpOp} {r r':R2} (ho:OpR X (compareOp op) r) (ho':OpR X (compareOp op') r') (ha:PE X a ta) (hb:PE X b tb) (hc:PE X c tc)
    (hm:lastMarks [op,op'] [b,c]=false:=by with_unfolding_all rfl):PE X (.Compare a [op,op'] [b,c] pos) (yfh r r' ta tb tc):=by
  intro pins s σ H Q I h
  refine Compare_chain (thn (ha pins s σ H _ I h) fun v s1 ⟨x,H1,I1,r1,q1⟩=>chain_link (thn (hb pins s1 σ H1 _ I1 q1) fun u s2 ⟨y,H2,I2,r2,q2⟩ =>
    thn (ho pins s2 σ H2 x y v u _ I2 r1 r2 q2) fun d s3 ⟨z,H3,I3,r3,k,e,q3⟩=>?_)) hm
  subst e
  cases r3
  refine wpAny_truthy_bool ?_
  cases k with
  | false=>exact ite_ff ⟨.bl false,H3,I3,rfl,q3⟩
  | true=>exact ite_tt (chain_last (thn (hc pins s3 σ H3 _ I3 q3) fun w' s4 ⟨z',H4,I4,r4,q4⟩=>ho' pins s4 σ H4 y z' u w' Q I4 r2 r4 q4))
theorem yct {op op':CmpOp} {r r':R2} (ho:OpR X (compareOp op) r) (ho':OpR X (compareOp op') r') (ha:PE X a ta) (hb:PE X b tb) (hc:PE X c tc)
    (hm:lastMarks [op,op'] [b,c]=false:=by with_unfolding_all rfl):PT X (.Compare a [op,op'] [b,c] pos) (zfV (yfh r r' ta tb tc)):=by
  intro pins s σ H Q I h
  refine isTrue_chain (thn (ha pins s σ H _ I h) fun v s1 ⟨x,H1,I1,r1,q1⟩=>test_link (thn (hb pins s1 σ H1 _ I1 q1) fun u s2 ⟨y,H2,I2,r2,q2⟩ =>
    thn (ho pins s2 σ H2 x y v u _ I2 r1 r2 q2) fun d s3 ⟨z,H3,I3,r3,k,e,q3⟩=>?_)) hm
  subst e
  cases r3
  refine wpAny_truthy_bool ?_
  cases k with
  | false =>
    obtain ⟨k',e',q'⟩:=q3
    cases e'
    exact ite_ff ⟨H3,I3,q'⟩
  | true =>
    refine ite_tt (test_last (thn (hc pins s3 σ H3 _ I3 q3) fun w' s4 ⟨z',H4,I4,r4,q4⟩=>thn (ho' pins s4 σ H4 y z' u w' _ I4 r2 r4 q4) fun d' s5 ⟨z2,H5,I5,r5,k2,e2,q5⟩=>?_))
    subst e2
    cases r5
    exact wpAny_truthy_bool ⟨H5,I5,q5⟩
theorem zdH:(sizeLine:Nat)<2^63:=by rw [sizeLine_eq];decide
theorem zb4 {x:V} {us:List Value} (r:Vals [x] us):∃u,us=[u]∧RelV x u:=by
  cases r with
  | cons r1 r2=>cases r2;exact ⟨_,rfl,r1⟩
theorem yeP {x y:V} {us:List Value} (r:Vals [x,y] us):∃u w',us=[u,w']∧RelV x u∧RelV y w':=by
  cases r with
  | cons r1 r2 =>
    cases r2 with
    | cons r3 r4=>cases r4;exact ⟨_,_,rfl,r1,r3⟩
theorem zdS:yaT X (.builtin "abs") (fun xs H Q=>∃i,xs=[.int i]∧Q (.int (if i<0 then -i else i)) H):=by
  intro pins s σ H xs us Q I r h
  obtain ⟨i,rfl,q⟩:=h
  obtain ⟨u,rfl,t,rfl⟩:=zb4 r
  exact call_abs_int fun u tk=>⟨.int (if i<0 then -i else i),H,I.tok _,⟨_,rfl⟩,q⟩
theorem zeC (hc:X.calm=true):yaT X (.builtin "min") (fun xs H Q=>∃i j,xs=[.int i,.int j]∧Q (.int (if j<i then j else i)) H):=by
  intro pins s σ H xs us Q I r h
  obtain ⟨i,j,rfl,q⟩:=h
  obtain ⟨u,w',rfl,⟨t,rfl⟩,⟨t',rfl⟩⟩:=yeP r
  refine min_two_ints (I.ok.hd hc) fun h' tk k=>⟨_,H,I.kept k,?_,q⟩
  by_cases hj:j<i
  · rw [if_pos hj,if_pos hj];exact ⟨_,rfl⟩
  · rw [if_neg hj,if_neg hj];exact ⟨_,rfl⟩
theorem yea:yaT X (.type "int") (fun xs H Q=>(∃i,xs=[.int i]∧Q (.int i) H)∨∃k,xs=[.bl k]∧Q (.int (if k then 1 else 0)) H):=by
  intro pins s σ H xs us Q I r h
  rcases h with ⟨i,rfl,q⟩ | ⟨k,rfl,q⟩
  · obtain ⟨u,rfl,t,rfl⟩:=zb4 r
    exact call_int_int ⟨.int i,H,I,⟨_,rfl⟩,q⟩
  · obtain ⟨u,rfl,r1⟩:=zb4 r
    cases r1
    exact call_int_bool ⟨.int (if k then 1 else 0),H,I.tok _,⟨_,rfl⟩,q⟩
end
end L2
namespace L2
open PySem PySem.Spec PyProof.Rows
structure ObjM (h:Heap) (x dx C:Addr) (mA:Str→Option Value):Prop where
  obj:h.get? x=some (PySem.W.instObj C dx)
  ns:h.Ns1 dx mA
  ne:dx≠x
section
variable {prog:Program} {w:World} {A:Around} {E:Value→Shared→Prop} {s:Shared} {K:PySem.W.Frag} {x dx C f:Addr} {mA:Str→Option Value} {name:Str} {v:Value}
end
theorem RelO.some_of {v:V} {o:Option Value} (r:RelO (some v) o):∃u,o=some u∧RelV v u:=by
  cases o with
  | none=>exact (show False from r).elim
  | some u=>exact ⟨u,rfl,r⟩
section
variable {P:Program} {w:World} {H H':Hp} {h h':Heap} {a C dx:Addr} {fs fs':List (Str×V)}
end
structure Cls (K:PySem.W.Frag) (C:Addr):Prop where
  pg:PySem.W.plainGet K C Str.empty=true
  hd:PySem.W.hasDictIn K C=true
  po:PySem.W.plainOver K C=true
  sa:PySem.W.findIn K (.ref C) "__setattr__"=some (some (.builtin "object.__setattr__"))
structure Con (K:PySem.W.Frag) (C:Addr) (f:Str) (v:V) (u:Value):Prop where
  at_:PySem.W.findIn K (.ref C) f=some (some u)
  rel:RelV v u
  get:PySem.W.specialIn K u "__get__"=some none
  cp:PySem.W.copiedNames.contains f=false
structure Meth (K:PySem.W.Frag) (C:Addr) (m:Str) (f:Addr):Prop where
  at_:PySem.W.findIn K (.ref C) m=some (some (.ref f))
  fn:PySem.W.isFn K (.ref f)=true
  kp:PySem.W.keepIn K (.ref f)=true
section
variable {X:Cx} {pins:List (Addr×Obj)} {σ:St} {H:Hp} {s:Shared} {a C dx:Addr} {fs:List (Str×V)} {f:Str} {v:V} {A:Around} {E:Value→Shared→Prop}
end
section
variable {X:Cx} {o e value:Expr} {f:Str} {pos pos' tpos:Pos} {ta tv:TE}
end
section
variable {X:Cx} {pins:List (Addr×Obj)} {σ:St} {H:Hp} {s:Shared} {A:Around} {E:Value→Shared→Prop} {Q:Value→Shared→Prop} {c:Value} {b:Bool}
inductive TyOf (K:PySem.W.Frag) (H:Hp):V→Value→Prop where
  | non:TyOf K H .non (.type "NoneType")
  | bl (x:Bool):TyOf K H (.bl x) (.type "bool")
  | int (i:Int):TyOf K H (.int i) (.type "int")
  | str (x:Str):TyOf K H (.str x) (.type "str")
  | flt (x:UInt64):TyOf K H (.flt x) (.type "float")
  | lst {a:Addr} {xs:List V} (e:H a=some (.lst xs)):TyOf K H (.ref a) (.type "list")
  | frz {a:Addr} {o:Obj} {xs:List V} (e:H a=some (.frz o (.lst xs))):TyOf K H (.ref a) (.type "list")
  | tup {a:Addr} {xs:List V} (e:H a=some (.tup xs)):TyOf K H (.ref a) (.type "tuple")
  | dK {a:Addr} {kvs:List (Key×V)} (e:H a=some (.dK kvs)):TyOf K H (.ref a) (.type "dict")
  | dT {a:Addr} {kvs:List (List Key×V)} (e:H a=some (.dT kvs)):TyOf K H (.ref a) (.type "dict")
  | ins {a C dx:Addr} {fs:List (Str×V)} (e:H a=some (.ins C dx fs)) (cl:Cls K C) (ha:PySem.W.findIn K (.ref C) "__class__"=some (some (.builtin "object.__class__")))
      (hn:PySem.W.specialIn K (.builtin "object.__class__") "__get__"=some (some (.builtin "getset_descriptor.__get__"))) (htk:PySem.W.takesIn K (.builtin "object.__class__")=some true)
      (hm:PySem.W.mroIn K C (.type "object")=some true):TyOf K H (.ref a) (.ref C)
end
end L2
namespace L2
open PySem PySem.Spec PyProof.Rows
structure Room (k:Nat) (A:Around):Prop where
  hd:A.handled=none
  dp:A.depth+3*k+5<recursionLimit
  un:A.units+16*k+200<cLine
  gd:A.guards=some []
theorem Room.mono {j k:Nat} {A:Around} (r:Room k A) (h:j≤k):Room j A:=⟨r.hd,by have:=r.dp;omega,by have:=r.un;omega,r.gd⟩
theorem Room.deeper {k:Nat} {A:Around} (r:Room (k+1) A) (env:Env):Room k (A.deeper env) :=
  ⟨r.hd,by have:=r.dp;show A.depth+1+3*k+5<_;omega,by have:=r.un;show A.units+3+16*k+200<_;omega,r.gd⟩
theorem Room.depth {k:Nat} {A:Around} (r:Room k A):A.depth<recursionLimit:=by have:=r.dp;omega
theorem Room.units {k:Nat} {A:Around} (r:Room k A):A.units+64<cLine:=by have:=r.un;omega
theorem Room.units0 {k:Nat} {A:Around} (r:Room k A):A.units<cLine:=by have:=r.un;omega
noncomputable def tNil:TA:=fun _ H Q=>Q [] H
noncomputable def yce (ta:TE) (tr:TA):TA:=fun σ H Q=>ta σ H fun x H1=>tr σ H1 fun xs H2=>Q (x::xs) H2
section
variable {X:Cx} {e:Expr} {es:List Expr} {te:TE} {t:TA} {pos:Pos}
theorem yab:PA X [] tNil:=fun _ _ _ _ H Q I h=>Calls.spliced_nil ⟨[],H,I,.nil,h⟩
theorem zaa (ha:PE X e te) (hr:PA X es t) (hs:starEach (e::es) X.env=(false,eval e X.env)::starEach es X.env:=by rfl):PA X (e::es) (yce te t):=by
  intro pos pins s σ H Q I h
  rw [hs]
  show wpAny _ _ (spliced ((false,eval e X.env)::backTo pos (starEach es X.env))) _ _ s
  refine Calls.spliced_cons (thn (ha pins s σ H _ I h) fun u s1 ⟨x,H1,I1,r1,q1⟩=>?_)
  exact thn (hr pos pins s1 σ H1 _ I1 q1) fun us s2 ⟨xs,H2,I2,r2,q2⟩=>⟨x::xs,H2,I2,.cons r1 r2,q2⟩
noncomputable def tTup (t:TA):TE:=fun σ H Q=>t σ H fun xs H1=>xs.length≤sizeLine∧∀p,H1 p=none→Q (.ref p) (upd H1 p (.tup xs))
noncomputable def tLst (t:TA):TE:=fun σ H Q=>t σ H fun xs H1=>xs.length≤sizeLine∧∀p,H1 p=none→Q (.ref p) (upd H1 p (.lst xs))
theorem ybm {x1} (h:PA X es t):PE X (.Tuple es x1 pos) (tTup t):=by
  intro pins s σ H Q I hq
  refine wpAny_Tuple_spliced (thn (h pos pins s σ H _ I hq) fun us s1 ⟨xs,H1,I1,r,z,q⟩=>⟨by rw [←r.length];exact z,?_⟩)
  have hf:H1 s1.heap.objs.size=none:=I1.hok.fresh (Nat.le_refl _)
  refine ⟨.ref s1.heap.objs.size,upd H1 s1.heap.objs.size (.tup xs),I1.laid (t':=s1.toks) (fun b u e=>Heap.get?_push_of_some _ e) (Nat.le_refl _) ?_,rfl,q _ hf⟩
  exact ⟨z,us,r,⟨_,Heap.get?_push_size _ rfl,rfl,_,rfl⟩⟩
theorem zaZ (h:PA X es t):PE X (.List es pos) (tLst t):=by
  intro pins s σ H Q I hq
  refine wpAny_List_spliced (thn (h pos pins s σ H _ I hq) fun us s1 ⟨xs,H1,I1,r,z,q⟩=>⟨by rw [←r.length];exact z,?_⟩)
  have hf:H1 s1.heap.objs.size=none:=I1.hok.fresh (Nat.le_refl _)
  refine ⟨.ref s1.heap.objs.size,upd H1 s1.heap.objs.size (.lst xs),I1.laid (t':=s1.toks) (fun b u e=>Heap.get?_push_of_some _ e) (Nat.le_refl _) ?_,rfl,q _ hf⟩
  exact ⟨z,us,0,r,Heap.get?_push_size _ rfl⟩
end
noncomputable abbrev Sp:=List V→Hp→VK→XK→Prop
noncomputable abbrev CXT:=List Env→Hp→Shared→XK→Value→Shared→Prop
structure Env0 (P:Program) (w:World) (K:PySem.W.Frag) (mg:Str→Option Value) (base:Heap) (A:Around) (outer:List Env) (s:Shared) (H:Hp):Prop where
  frames:A.frames=some outer
  mod:Mod K mg base
  bs:∀b o,base.get? b=some o→s.heap.get? b=some o∧H b=none
  bsz:base.objs.size≤s.heap.objs.size
  funs:s.heap.FunFrames base outer
  frf:∀b∈frs outer,H b=none
  hok:HOk P w H s.heap
  bare:AllBare s.gens
noncomputable def CE (outer:List Env) (P:Program) (w:World) (H:Hp) (s:Shared) (Q:VK) (u:Value) (s':Shared):Prop :=
  ∃v H',s'.os=s.os∧AllBare s'.gens∧Un (frs outer) [] H H' s.heap s'.heap∧HOk P w H' s'.heap∧RelV v u∧Q v H'
noncomputable def CR (CX:CXT) (outer:List Env) (P:Program) (w:World) (H:Hp) (s:Shared) (Q:VK) (E:XK) (r:Result) (s':Shared):Prop :=
  match r with
  | .ok (.ret u)=>CE outer P w H s Q u s'
  | .ok _=>False
  | .error e=>CX outer H s E e s'
structure FnOk (P:Program) (w:World) (K:PySem.W.Frag) (mg:Str→Option Value) (base:Heap) (CX:CXT) (k:Nat) (f:Addr) (fd:FuncData) (ps:List Str) (sp:Sp):Prop where
  len:∀vs H Q E,sp vs H Q E→vs.length=ps.length
  run:∀(A:Around) (outer:List Env) (s:Shared) (H:Hp) (args:Args) (us:List Value) (vs:List V) (Q:VK) (E:XK),Room k A→Env0 P w K mg base A outer s H→BindsTo s fd args (ps.zip us)→Vals vs us→sp vs H Q E→
    codeAny (model P w) A (.call (.ref f) args) (CR CX outer P w H s Q E) s
section
variable {X:Cx} {pins:List (Addr×Obj)} {σ:St} {H:Hp} {s s':Shared}
theorem Inv.env0 (I:Inv X pins σ H s):Env0 X.prog X.w X.K X.mg X.base X.A X.stack s H :=
  ⟨I.ok.frames,I.ok.mod,I.bs,Nat.le_trans I.ok.bsz I.sz,I.stack,I.stkFree,I.hok,I.bare⟩
theorem Inv.after {Q:VK} {u:Value} (I:Inv X pins σ H s) (h:CE X.stack X.prog X.w H s Q u s'):EP X pins σ Q u s':=by
  obtain ⟨v,H',os,bare,un,hok,r,q⟩:=h
  obtain ⟨hh,g,d,t,os'⟩:=s'
  obtain rfl:os'=s.os:=os
  exact ⟨v,H',I.call (h':=hh) (g':=g) (d':=d) (t':=t) (ch:=[]) un hok bare (fun b z=>absurd z (by simp)),r,q⟩
end
noncomputable def zfG (sp:Sp) (dvs:List V) (E:XK) (t:TA):TE:=fun σ H Q=>t σ H fun vs H1=>sp (vs++dvs) H1 Q E
noncomputable def ydg (K:PySem.W.Frag) (fd:FuncData) (ps:List Str) (ds:List Value):Prop :=
  ∀(s:Shared) (us:List Value),K.In s.heap→(us++ds).length=ps.length→BindsTo s fd ⟨us,[]⟩ (ps.zip (us++ds))
theorem ydg.all {K:PySem.W.Frag} {fd:FuncData} {ps:List Str} (h:∀us:List Value,us.length=ps.length→bindArgs fd ⟨us,[]⟩=pure (ps.zip us)):ydg K fd ps []:=fun s us _ hl=>by
  rw [List.append_nil] at hl ⊢
  exact .of_eq (h us hl)
noncomputable def zeH (CX:CXT) (X:Cx) (E:XK):Prop:=∀(pins:List (Addr×Obj)) (σ:St) (H:Hp) (s:Shared) (e:Value) (s':Shared),Inv X pins σ H s→CX X.stack H s E e s'→X.xe e s'
section
variable {X:Cx} {CX:CXT} {k:Nat} {f C:Addr} {fd:FuncData} {ps:List Str} {sp:Sp} {dvs:List V} {ds:List Value} {E:XK} {x m:Str} {p pos apos:Pos} {e o:Expr} {es:List Expr} {ta:TE} {t:TA}
theorem yfR {pins:List (Addr×Obj)} {σ:St} {H:Hp} {s:Shared} {Q:VK} {us:List Value} {vs:List V} (F:FnOk X.prog X.w X.K X.mg X.base CX k f fd ps sp) (hr:Room k X.A) (hb:ydg X.K fd ps ds) (hd:Vals dvs ds) (hx:zeH CX X E)
    (I:Inv X pins σ H s) (r:Vals vs us) (h:sp (vs++dvs) H Q E):wpAny (model X.prog X.w) X.A (call (.ref f) us) (EP X pins σ Q) X.xe s:=by
  have r2:Vals (vs++dvs) (us++ds):=r.append hd
  have hl:(us++ds).length=ps.length:=by rw [←r2.length];exact F.len _ _ _ _ h
  refine wpAny_call (codeAny_mono (F.run X.A X.stack s H ⟨us,[]⟩ (us++ds) (vs++dvs) Q E hr I.env0 (hb s us I.kIn hl) r2 h) fun r s' hq=>?_)
  cases r with
  | error e=>exact hx pins σ H s e s' I hq
  | ok fl =>
    cases fl with
    | ret u=>exact I.after hq
    | next=>exact False.elim hq
    | brk=>exact False.elim hq
    | cont=>exact False.elim hq
theorem yfs (F:FnOk X.prog X.w X.K X.mg X.base CX k f fd ps sp) (hr:Room k X.A) (hg:Gl X x) (hm:X.mg x=some (.ref f)) (hk:PySem.W.keepIn X.K (.ref f)=true) (hb:ydg X.K fd ps ds) (hd:Vals dvs ds) (hx:zeH CX X E)
    (ha:PA X (e::es) t) (hdb:(x==("__debug__":Str))=false:=by decide) (he:starEach (e::es) X.env=(false,eval e X.env)::starEach es X.env:=by rfl) (hpl:(backTo pos (starEach es X.env)).any (·.1)=false:=by rfl) :
    PE X (.Call (.Name x p) (e::es) [] pos) (zfG sp dvs E t):=by
  intro pins s σ H Q I h
  refine wpAny_Call_Name_kw (zb2 I hg hm ?_ hdb)
  refine PySem.W.callWith_K (h₀:=X.base) I.ok.mod.kin hk (thn (ha pos pins s σ H _ I h) fun us s1 ⟨vs,H1,I1,r,q⟩=>⟨I1.kIn,?_⟩) he hpl
  exact yfR F hr hb hd hx I1 r q
structure Mk (K:PySem.W.Frag) (C f:Addr):Prop where
  makes:PySem.W.makesIn K C=true
  init:PySem.W.findIn K (.ref C) "__init__"=some (some (.ref f))
  fn:PySem.W.isFn K (.ref f)=true
  kp:PySem.W.keepIn K (.ref C)=true
end
section
variable {X:Cx} {CX:CXT} {k:Nat} {f C:Addr} {fd:FuncData} {ps ks:List Str} {sp:Sp} {E:XK} {x m:Str} {p pos apos kpos:Pos} {e o:Expr} {es:List Expr} {kws:List Keyword} {te ta:TE} {t tk:TA} {nm:Option Str}
structure KBinds (K:PySem.W.Frag) (fd:FuncData) (ps ks:List Str) (g:List Value→List Value→List Value) (gV:List V→List V→List V):Prop where
  to:∀(s:Shared) (us ws:List Value),K.In s.heap→(g us ws).length=ps.length→BindsTo s fd ⟨us,ks.zip ws⟩ (ps.zip (g us ws))
  rel:∀ {vs:List V} {us:List Value} {zs:List V} {ws:List Value},Vals vs us→Vals zs ws→Vals (gV vs zs) (g us ws)
variable {g:List Value→List Value→List Value} {gV:List V→List V→List V}
end
structure zak (N P:List Str) (sc:Scope):Prop where
  kind:sc.kind = .function
  co:sc.isCoroutine=false
  gen:sc.isGenerator=false
  nd:N.Nodup
  pre:N.take P.length=P
  par:∀x∈P,sc.names.lookup x=some .local∨sc.names.lookup x=some .cell
  nofree:∀y∈sc.names,y.2≠.free
theorem yc4 {kindOf:Str→Option NameKind} {x:Str}:∀ {binds:List (Str×Value)} {m:Str→Option Value},(∀v,(x,v)∉binds)→bindL kindOf binds m x=m x
  | [],_,_=>rfl
  | (n,v)::r,m,h=>by
    unfold bindL
    rw [yc4 fun w hw=>h w (List.mem_cons_of_mem _ hw)]
    split
    · have:x≠n:=by rintro rfl;exact h v List.mem_cons_self
      simp [this]
    · rfl
theorem zc9 {kindOf:Str→Option NameKind} {x:Str}:∀ {binds:List (Str×Value)} {m:Str→Option Value},(∀v,(x,v)∉binds)→bindC kindOf binds m x=m x
  | [],_,_=>rfl
  | (n,v)::r,m,h=>by
    unfold bindC
    rw [zc9 fun w hw=>h w (List.mem_cons_of_mem _ hw)]
    split
    · rfl
    · have:x≠n:=by rintro rfl;exact h v List.mem_cons_self
      simp [this]
theorem yc0 {kindOf:Str→Option NameKind} {x:Str} {v:Value}:∀ {P:List Str} {vs:List Value} {i:Nat} {m:Str→Option Value},P.Nodup→P[i]?=some x→vs[i]?=some v→kindOf x=some .local→
    bindL kindOf (P.zip vs) m x=some v
  | [],_,_,_,_,h,_,_=>by simp at h
  | _::_,[],_,_,_,_,h,_=>by simp at h
  | p::P,w::vs,0,m,nd,h1,h2,hk=>by
    simp at h1 h2;subst h1;subst h2
    show bindL kindOf ((p,w)::P.zip vs) m p=_
    unfold bindL
    rw [yc4 fun v hv=>(List.nodup_cons.mp nd).1 (List.of_mem_zip hv).1,if_pos hk]
    simp
  | p::P,w::vs,i+1,m,nd,h1,h2,hk=>by
    show bindL kindOf ((p,w)::P.zip vs) m x=_
    unfold bindL
    exact yc0 (i:=i) (List.nodup_cons.mp nd).2 (by simpa using h1) (by simpa using h2) hk
theorem zde {kindOf:Str→Option NameKind} {x:Str} {v:Value}:∀ {P:List Str} {vs:List Value} {i:Nat} {m:Str→Option Value},P.Nodup→P[i]?=some x→vs[i]?=some v→kindOf x≠some .local→
    bindC kindOf (P.zip vs) m x=some v
  | [],_,_,_,_,h,_,_=>by simp at h
  | _::_,[],_,_,_,_,h,_=>by simp at h
  | p::P,w::vs,0,m,nd,h1,h2,hk=>by
    simp at h1 h2;subst h1;subst h2
    show bindC kindOf ((p,w)::P.zip vs) m p=_
    unfold bindC
    rw [zc9 fun v hv=>(List.nodup_cons.mp nd).1 (List.of_mem_zip hv).1,if_neg hk]
    simp
  | p::P,w::vs,i+1,m,nd,h1,h2,hk=>by
    show bindC kindOf ((p,w)::P.zip vs) m x=_
    unfold bindC
    exact zde (i:=i) (List.nodup_cons.mp nd).2 (by simpa using h1) (by simpa using h2) hk
noncomputable def ycz (N:List Str) (vs:List V):St:=vs.map some++List.replicate (N.length-vs.length) none
noncomputable def cxOf (CX:CXT) (P:Program) (w:World) (K:PySem.W.Frag) (mg:Str→Option Value) (base:Heap) (N:List Str) (qual:Str) (scope:Scope) (f:Addr) (cd:Value) (A:Around) (outer:List Env) (s:Shared) (H:Hp) (E:XK):Cx where
  prog:=P
  w:=w
  K:=K
  mg:=mg
  base:=base
  A:=A.deeper (envOfC qual scope s.heap.objs.size f cd)
  N:=N
  s₀:=s
  H₀:=H
  env:=envOfC qual scope s.heap.objs.size f cd
  outer:=outer
  stack:=envOfC qual scope s.heap.objs.size f cd::outer
  ex:=[]
  calm:=true
  fn:=fun _=>true
  pn:=[]
  xe:=fun e s'=>wpAny (model P w) (A.deeper (envOfC qual scope s.heap.objs.size f cd)) (leaving (envOfC qual scope s.heap.objs.size f cd) e) (fun _ s''=>CX outer H s E e s'') (fun e' s''=>CX outer H s E e' s'') s'
theorem ydC {sc:Scope} {n:Nat} {x:Str} (h:sc.names.lookup x=some .cell):∃c,(cellsFrom n sc.names []).lookup x=some c:=by
  have q:=PySem.W.cellsFrom_some sc.names n [] (.inl h)
  exact Option.isSome_iff_exists.mp q
theorem yef {CX:CXT} {P:Program} {w:World} {K:PySem.W.Frag} {mg:Str→Option Value} {base:Heap} {N ps:List Str} {qual:Str} {scope:Scope} {f:Addr} {cd:Value} {A:Around} {outer:List Env} {s s1:Shared} {H:Hp} {E:XK} {us:List Value} {vs:List V}
    (S:zak N ps scope) (hd:A.handled=none) (e0:Env0 P w K mg base A outer s H) (hl:vs.length=ps.length) (r:Vals vs us)
    (x:InCallC s s.heap.objs.size (bindL (envOfC qual scope s.heap.objs.size f cd).kindOf (ps.zip us) fun _=>none) (cellsFrom (s.heap.objs.size+1) scope.names []) (bindC (envOfC qual scope s.heap.objs.size f cd).kindOf (ps.zip us) fun _=>none) s1) :
    Inv (cxOf CX P w K mg base N qual scope f cd A outer s H E) [] (ycz N vs) H s1:=by
  have hpl:ps.length≤N.length:=by have:=congrArg List.length S.pre;rw [List.length_take] at this;omega
  obtain ⟨h1,tk,rfl,hk⟩:=x.done
  have noA:∀b:Addr,b∉(cxOf CX P w K mg base N qual scope f cd A outer s H E).ex:=fun b z=>absurd (show b∈([]:List Addr) from z) (by simp)
  refine ⟨⟨e0.mod,S.kind,rfl,rfl,Nat.le_refl _,fun y z c h1 h2=>?_,fun y hy=>?_,fun y c _ h=>?_,fun _=>hd,Around.frames_deeper e0.frames,.inr ⟨rfl,rfl⟩,fun b z=>absurd z (noA b),e0.bs,e0.bsz,fun b _ _=>noA b,fun b z=>absurd z (noA b),e0.funs,e0.frf⟩,
    rfl,e0.bare,Un.kept hk,⟨_,x.toInCall.ns,fun i y v h1 h2 h3=>?_⟩,fun y c h=>⟨_,x.cell y c h⟩,e0.hok.fresh (Nat.le_refl _),fun y c h=>?_,fun p hp=>absurd (show p∈([]:List (Addr×Obj)) from hp) (by simp),e0.hok.kept hk,?_⟩
  · exact name_of_addr x.apart (PySem.mem_of_lookup h1) (PySem.mem_of_lookup h2)
  · have hy:scope.names.lookup y=some .cell∨scope.names.lookup y=some .free:=hy
    rcases hy with hy|hy
    · exact ydC hy
    · exact absurd rfl (S.nofree _ (PySem.mem_of_lookup hy))
  · exact Nat.le_of_lt (x.above y c (PySem.mem_of_lookup h))
  · have hi:i<vs.length:=by
      unfold ycz at h2
      by_cases hi:i<vs.length
      · exact hi
      · rw [List.getElem?_append_right (by simpa using hi)] at h2
        rw [List.getElem?_replicate] at h2
        split at h2 <;> cases h2
    have ha:vs[i]?=some v:=by
      unfold ycz at h2
      rw [List.getElem?_append_left (by simpa using hi),List.getElem?_map] at h2
      cases e:vs[i]? with
      | none=>rw [e] at h2;cases h2
      | some a=>rw [e] at h2;cases h2;rfl
    obtain ⟨u,hu,rv⟩:=r.get ha
    have hp:ps[i]?=some y:=by
      rw [←S.pre,List.getElem?_take_of_lt (by omega)];exact h1
    have ndP:ps.Nodup:=by rw [←S.pre];exact S.nd.sublist (List.take_sublist _ _)
    refine ⟨u,rv,?_⟩
    rcases S.par y (List.mem_of_getElem? hp) with k|k
    · exact .inl ⟨k,yc0 ndP hp hu k⟩
    · obtain ⟨c,e⟩:=ydC (n:=s.heap.objs.size+1) k
      refine .inr ⟨.inl k,c,e,?_⟩
      have q:=x.cell y c e
      rw [zde ndP hp hu (by show scope.names.lookup y≠_;rw [k];decide)] at q
      exact q
  · exact e0.hok.fresh (Nat.le_of_lt (x.above y c (PySem.mem_of_lookup h)))
  · unfold ycz
    show _=N.length
    rw [List.length_append,List.length_map,List.length_replicate]
    omega
theorem yfV {CX:CXT} {P:Program} {w:World} {K:PySem.W.Frag} {mg:Str→Option Value} {base:Heap} {k:Nat} {f:Addr} {name qual:Str} {params:Arguments} {body:List Stmt} {scope:Scope} {dV kV doc pm cdv ct oc:Value} {an od:Option Addr}
    {osl:Array (Option Value)} {N ps:List Str} {sp:Sp} (lk:K.lookup f=some ⟨oc,od,.func (PySem.W.fnOf name qual params body scope dV kV doc pm an cdv ct),osl⟩) (hcd:PySem.W.codeIn K cdv qual=true) (S:zak N ps scope)
    (len:∀vs H Q E,sp vs H Q E→vs.length=ps.length)
    (hbody:∀(A:Around) (outer:List Env) (s:Shared) (H:Hp) (vs:List V) (Q:VK) (E:XK),Room k (A.deeper (envOfC qual scope s.heap.objs.size f cdv))→sp vs H Q E→
      ∃t,PSs (cxOf CX P w K mg base N qual scope f cdv A outer s H E) body t∧t { nx:=fun _ H'=>Q .non H',rt:=Q } (ycz N vs) H) :
    FnOk P w K mg base CX (k+1) f (PySem.W.fnOf name qual params body scope dV kV doc pm an cdv ct) ps sp:=by
  refine ⟨len,fun A outer s H args us vs Q E hr e0 hb r hsp=>?_⟩
  have hl:=len _ _ _ _ hsp
  have KX:K.In s.heap:=e0.mod.kin.keeps fun b o e=>(e0.bs b o e).1
  have lim:s.heap.NoLimit:=e0.mod.nolimit.keeps fun b o e=>(e0.bs b o e).1
  have hkind:∀y∈ps.zip us,scope.names.lookup y.1=some .local∨(scope.names.lookup y.1=some .cell∧((cellsFrom (s.heap.objs.size+1) scope.names []).lookup y.1).isSome=true):=fun ⟨n,v⟩ hy=>by
    rcases S.par n (List.of_mem_zip hy).1 with q|q
    · exact .inl q
    · exact .inr ⟨q,PySem.W.cellsFrom_some _ _ _ (.inl q)⟩
  refine codeAny_call_function hr.depth (KX _ _ lk) rfl S.co S.gen rfl (PySem.W.codeRec_of KX hcd) (hb _ _ _ _ ?_)
  refine wpAny_newFunctionEnv_cells S.kind hkind fun env he s1 x=>?_
  subst he
  refine ⟨lim.keeps x.toInCall.keep,codeAny_func ?_⟩
  obtain ⟨t,ht,hq⟩:=hbody A outer s H vs Q E (hr.deeper _) hsp
  have I:Inv (cxOf CX P w K mg base N qual scope f cdv A outer s H E) [] (ycz N vs) H s1:=yef S hr.hd e0 hl r x
  refine wpAny_mono (ht [] s1 (ycz N vs) H _ I hq) (fun fl s' hs=>?_) fun e s' hs=>hs
  have fin:∀ {σ':St} {H':Hp} {v:V} {u:Value},Inv (cxOf CX P w K mg base N qual scope f cdv A outer s H E) [] σ' H' s'→RelV v u→Q v H'→CE outer P w H s Q u s' :=
    fun {σ' H' v u} J rv q=>⟨v,H',J.os,J.bare,J.base,J.hok,rv,q⟩
  cases fl with
  | ret u =>
    obtain ⟨v,σ',H',J,rv,q⟩:=hs
    exact fin J rv q
  | next =>
    obtain ⟨σ',H',J,q⟩:=hs
    exact fin (v:=V.non) (u:=Value.none) J rfl q
  | brk =>
    obtain ⟨_,_,_,q⟩:=hs
    exact False.elim q
  | cont =>
    obtain ⟨_,_,_,q⟩:=hs
    exact False.elim q
end L2
namespace L2
open PySem PySem.Spec PyProof.Rows
section
variable {X:Cx} {x:Str} {p pos:Pos} {e:Expr} {es:List Expr} {t:TA} {id T:String} {r:List V→Hp→VK→Prop}
noncomputable def tCB (r:List V→Hp→VK→Prop) (t:TA):TE:=fun σ H Q=>t σ H fun vs H1=>r vs H1 Q
theorem yan (hc:yaT X (.builtin id) r) (hg:Gl X x) (hm:X.mg x=none) (hv:bootBuiltins x=some (.builtin id)) (ha:PA X (e::es) t) (hn:x≠"__name__":=by decide) (hdb:(x==("__debug__":Str))=false:=by decide)
    (he:starEach (e::es) X.env=(false,eval e X.env)::starEach es X.env:=by rfl) (hpl:(backTo pos (starEach es X.env)).any (·.1)=false:=by rfl):PE X (.Call (.Name x p) (e::es) [] pos) (tCB r t):=by
  intro pins s σ H Q I h
  refine wpAny_Call_Name_kw (zbz I hg hm hv ?_ hn hdb)
  exact PyProof.Rows.callWith_builtin1 (thn (ha pos pins s σ H _ I h) fun us s1 ⟨vs,H1,I1,r1,q1⟩=>hc pins s1 σ H1 vs us Q I1 r1 q1) he hpl
theorem ybG (hc:yaT X (.type T) r) (hg:Gl X x) (hm:X.mg x=none) (hv:bootBuiltins x=some (.type T)) (ha:PA X (e::es) t) (hn:x≠"__name__":=by decide) (hdb:(x==("__debug__":Str))=false:=by decide)
    (he:starEach (e::es) X.env=(false,eval e X.env)::starEach es X.env:=by rfl) (hpl:(backTo pos (starEach es X.env)).any (·.1)=false:=by rfl):PE X (.Call (.Name x p) (e::es) [] pos) (tCB r t):=by
  intro pins s σ H Q I h
  refine wpAny_Call_Name_kw (zbz I hg hm hv ?_ hn hdb)
  exact PyProof.Rows.callWith_type1 (thn (ha pos pins s σ H _ I h) fun us s1 ⟨vs,H1,I1,r1,q1⟩=>hc pins s1 σ H1 vs us Q I1 r1 q1) he hpl
end
end L2
namespace HT
open PySem PyProof.Rows
noncomputable def lexLt:List Int→List Int→Bool
  | [],[]=>false
  | [],_::_=>true
  | _::_,[]=>false
  | x::xs,y::ys=>if x=y then lexLt xs ys else decide (x<y)
theorem lexLt_cons (x y:Int) (xs ys:List Int):lexLt (x::xs) (y::ys)=if x=y then lexLt xs ys else decide (x<y):=rfl
theorem lexLt_nil_nil:lexLt [] []=false:=rfl
theorem zcf (y:Int) (ys:List Int):lexLt [] (y::ys)=true:=rfl
theorem ycg (x:Int) (xs:List Int):lexLt (x::xs) []=false:=rfl
theorem ye1 (A:Around) (s:Shared) (a:Int) (t:Tok) (c:Int) (u:Tok):∃e,SeqAt.EqAt A s (.int a t) (.int c u) e∧(e=true↔a=c) :=
  ⟨(a==c),SeqAt.EqAt.int_int a t c u,by simp⟩
theorem rcLt_int (A:Around) (s:Shared) (a:Int) (t:Tok) (c:Int) (u:Tok) (prog:Program) (w:World) (E:Value→Shared→Prop) (Q:Value→Shared→Prop) (h:Q (.bool (decide (a<c))) s) :
    wpAny (model prog w) A (richCompare .Lt (.int a t) (.int c u)) Q E s :=
  (PyProof.Rows.lt_int h:wpAny (model prog w) A (compareOp .Lt (.int a t) (.int c u)) Q E s)
section
open PySem.SeqAt
open PySem.AutoSeq1 (wpAny_loadPart')
open PySem.MeetsSeq PySem.MeetsSeq2 PySem.MeetsSeq3
theorem zcG (l b:Addr) (items items2:Array Value) (n n2:Nat) (dd dd2:Option Addr) (sl sl2:Array (Option Value)) (ns ms:List Int) (hi:IntsAre items.toList ns) (hj:IntsAre items2.toList ms) :
    Meets (Builtin.«tuple.__lt__» ⟨[.ref l,.ref b],[]⟩)
      (fun _ R s=>s.heap.get? l=some { cls:=.type "tuple",dict:=dd,data:=.seq items n,slots:=sl }∧s.heap.get? b=some { cls:=.type "tuple",dict:=dd2,data:=.seq items2 n2,slots:=sl2 }∧
        R (.ok (.ret (.bool (lexLt ns ms)))) s) :=
  .of_wp fun prog w A R s h=>by
    obtain ⟨hp,g,d,tk,os⟩:=s;obtain ⟨hl,hb,h⟩:=h
    have f2:=AutoSeq1.sub_tuple_tuple
    have z1:items.size=ns.length:=by rw [←hi.length];simp
    have z2:items2.size=ms.length:=by rw [←hj.length];simp
    wp_walk using wpAny_loadPart' hl,wpAny_loadPart' hb,wpAny_forIn_list _ (fun rest b s'=>b.1=none∧s'=⟨hp,g,d,tk,os⟩∧∃(vs ws:List Value) (ns' ms':List Int),rest=vs.zip ws∧
      IntsAre vs ns'∧IntsAre ws ms'∧ns'.length+items2.size=ms'.length+items.size∧R (.ok (.ret (.bool (lexLt ns' ms')))) ⟨hp,g,d,tk,os⟩) _
    case turn =>
      rintro ⟨y,x⟩ rest b s' ⟨hb',rfl,vs,ws,ns',ms',hz,hvi,hwi,hlen,hR⟩
      cases hvi with
      | nil=>rw [List.zip_nil_left] at hz;cases hz
      | cons a t hvi' =>
        cases hwi with
        | nil=>rw [List.zip_nil_right] at hz;cases hz
        | cons c u hwi' =>
          rw [List.zip_cons_cons] at hz
          injection hz with hyx hrest
          injection hyx with hy hx
          subst hy hx
          rw [lexLt_cons] at hR
          simp only [List.length_cons] at hlen
          obtain ⟨e,he,hiff⟩:=ye1 A.in1 ⟨hp,g,d,tk,os⟩ a t c u
          refine wpAny_bind (he prog w _ _ ?_)
          cases e with
          | true =>
            rw [if_pos (hiff.mp rfl)] at hR
            wp_walk
            exact ⟨rfl,rfl,_,_,_,_,hrest,hvi',hwi',by omega,hR⟩
          | false =>
            rw [if_neg (fun q=>absurd (hiff.mpr q) Bool.false_ne_true)] at hR
            have hri:=rcLt_int A.in1 ⟨hp,g,d,tk,os⟩ a t c u prog w
            wp_walk using hri
            exact ⟨_,rfl,by simpa using hR⟩
    case fin =>
      rintro ⟨b1,b2⟩ s' ⟨hb',rfl,vs,ws,ns',ms',hz,hvi,hwi,hlen,hR⟩
      simp only at hb'
      subst hb'
      have hv:lexLt ns' ms'=decide (items.size<items2.size):=by
        cases hvi with
        | nil =>
          cases hwi with
          | nil =>
            simp only [List.length_nil] at hlen
            rw [lexLt_nil_nil]
            exact (decide_eq_false (by omega)).symm
          | cons c u hw =>
            simp only [List.length_nil,List.length_cons] at hlen
            rw [zcf]
            exact (decide_eq_true (by omega)).symm
        | cons a t hv =>
          cases hwi with
          | nil =>
            simp only [List.length_nil,List.length_cons] at hlen
            rw [ycg]
            exact (decide_eq_false (by omega)).symm
          | cons c u hw =>
            rw [List.zip_cons_cons] at hz
            cases hz
      rw [hv] at hR
      wp_walk
      exact ⟨_,rfl,by simpa [Builtin.Tuple.tupleCompareSizes] using hR⟩
    case h =>
      exact ⟨rfl,rfl,items.toList,items2.toList,ns,ms,rfl,hi,hj,by omega,h⟩
end
section
variable {prog:Program} {w:World} {A:Around} {E:Value→Shared→Prop} {s:Shared}
theorem lt_tupInts {l b:Addr} {items items2:Array Value} {ns ms:List Int} {Q:Value→Shared→Prop} (hl:IsTup s.heap l items) (hb:IsTup s.heap b items2) (hi:IntsAre items.toList ns) (hj:IntsAre items2.toList ms)
    (hu:A.units<cLine) (h:Q (.bool (lexLt ns ms)) s):wpAny (model prog w) A (compareOp .Lt (.ref l) (.ref b)) Q E s:=by
  obtain ⟨⟨cls,dd,data,sl⟩,ho,hc,n,hd⟩:=id hl
  obtain ⟨⟨cls2,dd2,data2,sl2⟩,ho2,hc2,n2,hd2⟩:=id hb
  simp only at hc hd hc2 hd2
  subst hc hd hc2 hd2
  exact richCompare_meets_room (op:=.Lt) ⟨_,ho,rfl⟩ ⟨_,ho2,rfl⟩ PySem.F.slot_tuple_lt PySem.F.entry_tuple_lt (PySem.F.args_tuple_lt_2 _ _) (zcG l b items items2 n n2 dd dd2 sl sl2 ns ms hi hj)
    ⟨ho,ho2,show Value.bool (lexLt ns ms)≠Value.notImplemented∧Q (.bool (lexLt ns ms)) s from ⟨(fun x=>nomatch x),h⟩⟩ hu
noncomputable def sIx (n d:Nat):Option Int→Nat
  | none=>d
  | some v=>if v<0 then (v+(n:Int)).toNat else min v.toNat n
theorem sIx_none (n d:Nat):sIx n d none=d:=rfl
theorem sIx_nat (n d k:Nat):sIx n d (some (k:Int))=min k n:=by
  show (if (k:Int)<0 then ((k:Int)+(n:Int)).toNat else min (k:Int).toNat n)=min k n
  rw [if_neg (by omega),Int.toNat_natCast]
end
end HT
namespace L2
open PySem PySem.Spec PyProof.Rows
noncomputable abbrev TO:=St→Hp→(Option Int→Hp→Prop)→Prop
noncomputable def PO (X:Cx) (e:Option Expr) (t:TO):Prop :=
  ∀(pins:List (Addr×Obj)) (s:Shared) (σ:St) (H:Hp) (Q:Option Int→Hp→Prop),Inv X pins σ H s→t σ H Q→
    wpAny (model X.prog X.w) X.A (evalPart e X.env) (fun u s'=>∃o H',Inv X pins σ H' s'∧IsPart u o∧Q o H') X.xe s
noncomputable def yfA:TO:=fun _ H Q=>Q none H
noncomputable def zga (t:TE):TO:=fun σ H Q=>t σ H fun x H1=>∃i,x = .int i∧Q (some i) H1
theorem yco {ns:List Int}:∀ {us:List Value},Vals (ns.map V.int) us→IntsAre us ns:=by
  induction ns with
  | nil=>intro us r;rw [List.map_nil] at r;cases r;exact .nil
  | cons n ns ih =>
    intro us r
    rw [List.map_cons] at r
    cases r with
    | cons r1 r2 =>
      obtain ⟨t,e⟩:=r1
      subst e
      exact .cons n t (ih r2)
section
variable {X:Cx} {e:Expr} {te:TE} {lo hi:Option Expr} {tl th:TO} {pos p2:Pos}
theorem zex:PO X none yfA:=by
  intro pins s σ H Q I h
  rw [evalPart_none]
  exact wpAny_pure ⟨none,H,I,.none,h⟩
theorem yeH (h:PE X e te):PO X (some e) (zga te):=by
  intro pins s σ H Q I hw
  rw [evalPart_some]
  refine thn (h pins s σ H _ I hw) fun u s1 ⟨x,H1,I1,r1,q1⟩=>?_
  obtain ⟨i,rfl,q⟩:=q1
  obtain ⟨t,rfl⟩:=r1
  exact ⟨some i,H1,I1,.int i t,q⟩
noncomputable def SlR (X:Cx) (r:V→Option Int→Option Int→Hp→VK→Prop):Prop :=
  ∀(pins:List (Addr×Obj)) (s:Shared) (σ:St) (H:Hp) (x:V) (v vl vu:Value) (lo hi:Option Int) (sl:Addr) (Q:VK),Inv X pins σ H s→RelV x v→s.heap.IsSliceOf sl vl vu .none→IsPart vl lo→IsPart vu hi→r x lo hi H Q→
    ∃T id,typeLookup (.type T) "__getitem__"=pure (some (.builtin id))∧s.TypeIs v T∧wpAny (model X.prog X.w) X.A (getItem v (.ref sl)) (EP X pins σ Q) X.xe s
noncomputable def tSl (r:V→Option Int→Option Int→Hp→VK→Prop) (te:TE) (tl th:TO):TE:=fun σ H Q=>te σ H fun x H1=>tl σ H1 fun l H2=>th σ H2 fun u H3=>r x l u H3 Q
theorem ydO {r:V→Option Int→Option Int→Hp→VK→Prop} (hr:SlR X r) (he:PE X e te) (hl:PO X lo tl) (hu:PO X hi th):PE X (.Subscript e (.Slice lo hi none p2) pos) (tSl r te tl th):=by
  intro pins s σ H Q I h
  refine Subscript_ (thn (he pins s σ H _ I h) fun v s1 ⟨x,H1,I1,r1,q1⟩=>?_)
  refine wpAny_Slice (thn (hl pins s1 σ H1 _ I1 q1) fun vl s2 ⟨l,H2,I2,pl,q2⟩=>thn (hu pins s2 σ H2 _ I2 q2) fun vu s3 ⟨u,H3,I3,pu,q3⟩=>?_)
  rw [evalPart_none]
  refine wpAny_pure ?_
  have I4:Inv X pins σ H3 { s3 with heap:=s3.heap.push { cls:=.type "slice",data:=.fields #[vl,vu,.none] } }:=I3.kept (t':=s3.toks) fun b ob q=>Heap.get?_push_of_some _ q
  obtain ⟨T,id,hT,ht,hg⟩:=hr pins { s3 with heap:=s3.heap.push { cls:=.type "slice",data:=.fields #[vl,vu,.none] } } σ H3 x v vl vu l u s3.heap.objs.size Q I4 r1 (Heap.IsSliceOf.new ..) pl pu q3
  show wpAny (model X.prog X.w) X.A (subscriptTail e (.Slice lo hi none p2) v (.ref s3.heap.objs.size)) (EP X pins σ Q) X.xe { s3 with heap:=s3.heap.push { cls:=.type "slice",data:=.fields #[vl,vu,.none] } }
  exact tail_any (ops:=[.ref s3.heap.objs.size,v]) ht hT hg (by with_unfolding_all rfl)
noncomputable def cutV (xs:List V) (lo hi:Option Int):List V:=(xs.drop (HT.sIx xs.length 0 lo)).take (HT.sIx xs.length xs.length hi-HT.sIx xs.length 0 lo)
theorem ydn (xs:List V) (lo hi:Option Int):(cutV xs lo hi).length≤xs.length:=by
  unfold cutV
  rw [List.length_take,List.length_drop]
  omega
end
end L2
namespace L2
open PySem PySem.Spec PyProof.Rows
noncomputable def ixN (n:Nat) (i:Int):Option Nat:=if 0≤i then (if i<n then some i.toNat else none) else if -(n:Int)≤i then some (i+n).toNat else none
noncomputable def atI {α:Type} (xs:List α) (i:Int):Option α:=(ixN xs.length i).bind fun j=>xs[j]?
theorem ydw {n:Nat} {i:Int} {j:Nat} (h:ixN n i=some j):seqIndex? i n=some j∧j<n∧-(n:Int)≤i∧i<n:=by
  unfold ixN at h
  by_cases h0:0≤i
  · rw [if_pos h0] at h
    by_cases h1:i<n
    · rw [if_pos h1] at h
      have e:i.toNat=j:=Option.some.inj h
      exact ⟨by rw [seqIndex_of h0 h1,e],by omega,by omega,h1⟩
    · rw [if_neg h1] at h;cases h
  · rw [if_neg h0] at h
    by_cases h1 : -(n:Int)≤i
    · rw [if_pos h1] at h
      have e:(i+n).toNat=j:=Option.some.inj h
      exact ⟨by rw [seqIndex_neg (by omega) h1,e],by omega,h1,by omega⟩
    · rw [if_neg h1] at h;cases h
theorem yeK {α:Type} {xs:List α} {i:Int} {v:α} (h:atI xs i=some v):∃j,seqIndex? i xs.length=some j∧xs[j]?=some v∧j<xs.length∧-(xs.length:Int)≤i∧i<xs.length:=by
  unfold atI at h
  cases e:ixN xs.length i with
  | none=>rw [e] at h;cases h
  | some j =>
    rw [e] at h
    obtain ⟨h1,h2,h3,h4⟩:=ydw e
    exact ⟨j,h1,h,h2,h3,h4⟩
theorem za8 {α:Type} {xs:List α} {j:Nat} {v:α} (h:xs[j]?=some v):atI xs (j:Int)=some v:=by
  have hj:j<xs.length:=(List.getElem?_eq_some_iff.mp h).1
  have e:ixN xs.length (j:Int)=some j:=by
    unfold ixN
    rw [if_pos (by omega),if_pos (by omega)];simp
  unfold atI;rw [e];exact h
noncomputable def zfq (b:Expr):Prop:=∀o i,subscripted b false o i=operate [o,i] (getItem o i)
noncomputable def IxR (X:Cx) (r:R2):Prop :=
  ∀(value slice:Expr) (pins:List (Addr×Obj)) (s:Shared) (σ:St) (H:Hp) (x y:V) (v u:Value) (Q:VK),Inv X pins σ H s→RelV x v→RelV y u→r x y H Q→
    subscripted slice false v u=operate [v,u] (getItem v u)→wpAny (model X.prog X.w) X.A (subscriptTail value slice v u) (EP X pins σ Q) X.xe s
noncomputable def MtR (X:Cx) (id:String) (r:V→List V→Hp→VK→Prop):Prop :=
  ∀(pins:List (Addr×Obj)) (s:Shared) (σ:St) (H:Hp) (x:V) (xs:List V) (v:Value) (us:List Value) (Q:VK),Inv X pins σ H s→RelV x v→Vals xs us→r x xs H Q→
    wpAny (model X.prog X.w) X.A (call (.builtin id) (v::us)) (EP X pins σ Q) X.xe s
section
variable {X:Cx} {a b:Expr} {ta tb:TE} {pos:Pos}
theorem zan {r:R2} (hr:IxR X r) (ha:PE X a ta) (hb:PE X b tb) (hs:zfq b):PE X (.Subscript a b pos) (tOp r ta tb):=by
  intro pins s σ H Q I h
  exact Subscript_ (binT ha hb I h fun v u s2 x y H2 I2 rx ry q=>hr a b pins s2 σ H2 x y v u Q I2 rx ry q (hs _ _))
noncomputable def rIxL (K:PySem.W.Frag):R2:=fun x y H Q=>∃p xs i v,x = .ref p∧y = .int i∧SqL K H p xs∧atI xs i=some v∧Q v H
noncomputable def rIxT (K:PySem.W.Frag):R2:=fun x y H Q=>∃p xs i v,x = .ref p∧y = .int i∧SqT K H p xs∧atI xs i=some v∧Q v H
theorem yam:IxR X (rIxL X.K):=by
  intro value slice pins s σ H x y v u Q I rx ry h hs
  obtain ⟨p,xs,i,z,rfl,rfl,hq,he,q⟩:=h
  cases rx
  obtain ⟨t,rfl⟩:=ry
  obtain ⟨its,r,pl,hz⟩:=I.list hq
  obtain ⟨j,h1,h2,h3,h4,h5⟩:=yeK he
  obtain ⟨w,ew,rw'⟩:=r.get h2
  have hl:=r.length
  have hn:=zdH
  have fin:EP X pins σ Q w s:=⟨z,H,I,rw',q⟩
  by_cases h0:0≤i
  · have hj:i.toNat=j:=by
      rw [seqIndex_of h0 h5] at h1
      exact Option.some.inj h1
    exact item_listR pl.isList h0 (by omega) (by rw [hj];simpa using ew) fin hs
  · have hj:(i+(its.toArray.size:Int)).toNat=j:=by
      rw [seqIndex_neg (by omega) h4] at h1
      rw [List.size_toArray,←hl]
      exact Option.some.inj h1
    exact subscriptTail_builtinR (x:=w) pl.isList.typeIs slot_list_getitem.lookup
      (wpAny_getItem_list_neg (Q:=fun r s'=>r=w∧EP X pins σ Q r s') pl.isList (by omega) (by rw [List.size_toArray] <;> omega) (by omega) (by rw [hj];simpa using ew) ⟨rfl,fin⟩) hs
theorem yaw:IxR X (rIxT X.K):=by
  intro value slice pins s σ H x y v u Q I rx ry h hs
  obtain ⟨p,xs,i,z,rfl,rfl,hq,he,q⟩:=h
  cases rx
  obtain ⟨t,rfl⟩:=ry
  obtain ⟨its,r,pl,hz⟩:=I.tuple hq
  obtain ⟨j,h1,h2,h3,h4,h5⟩:=yeK he
  obtain ⟨w,ew,rw'⟩:=r.get h2
  have hl:=r.length
  have hn:=zdH
  have fin:EP X pins σ Q w s:=⟨z,H,I,rw',q⟩
  exact subscriptTail_builtinR (x:=w) pl.typeIs slot_tuple_getitem.lookup
    (getItem_tuple (j:=j) (Q:=fun r s'=>r=w∧EP X pins σ Q r s') pl (by omega) (by omega) (by rw [List.size_toArray,←hl];exact h1) (by simpa using ew) ⟨rfl,fin⟩) hs
theorem zdW (its:List Value) (n j:Nat) (u:Value):Obj.mapSeq (·.setIfInBounds j u) { cls:=.type "list",data:=.seq its.toArray n }={ cls:=.type "list",data:=.seq (its.set j u).toArray n }:=by
  simp [Obj.mapSeq]
theorem Inv.lst {pins:List (Addr×Obj)} {σ:St} {H:Hp} {s:Shared} {p:Addr} {xs:List V} (I:Inv X pins σ H s) (h:H p=some (.lst xs)) :
    ∃(its:List Value) (n:Nat),Vals xs its∧s.heap.get? p=some { cls:=.type "list",data:=.seq its.toArray n }∧xs.length≤sizeLine:=by
  obtain ⟨z,its,n,r,e⟩:=I.hok p _ h
  exact ⟨its,n,r,e,z⟩
theorem Inv.lstUpd {pins:List (Addr×Obj)} {σ:St} {H:Hp} {s:Shared} {p:Addr} {xs ys:List V} {its its':List Value} {n n':Nat} {f:Obj→Obj} (I:Inv X pins σ H s) (h:H p=some (.lst xs))
    (ho:s.heap.get? p=some { cls:=.type "list",data:=.seq its.toArray n }) (hf:f { cls:=.type "list",data:=.seq its.toArray n }={ cls:=.type "list",data:=.seq its'.toArray n' }) (r:Vals ys its') (hz:ys.length≤sizeLine) (t:Nat) :
    Inv X pins σ (upd H p (.lst ys)) { s with heap:=s.heap.update p f,toks:=t }:=by
  have e:(s.heap.update p f).get? p=some { cls:=.type "list",data:=.seq its'.toArray n' }:=by
    rw [Heap.get?_update_self f ho (by rw [hf] <;> rfl),hf]
  refine I.write (x:=p) (e:=p) (by rw [h];trivial) (.inl rfl) (fun b u hb q=>(Heap.get?_update_other _ _ (Ne.symm hb)).trans q) ⟨_,e⟩ ?_
  exact ⟨hz,its',n',r,e⟩
noncomputable def zgh:V→V→V→Hp→(Hp→Prop)→Prop:=fun o i v H Q=>∃p xs k j,o = .ref p∧i = .int k∧H p=some (.lst xs)∧ixN xs.length k=some j∧Q (upd H p (.lst (xs.set j v)))
theorem zbY:PSet X zgh:=by
  intro pins s σ H o i v ov iv u Q I ro ri rv h
  obtain ⟨p,xs,k,j,rfl,rfl,hp,hj,q⟩:=h
  cases ro
  obtain ⟨t,rfl⟩:=ri
  obtain ⟨its,n,r,ho,hz⟩:=I.lst hp
  obtain ⟨h1,h2,h3,h4⟩:=ydw hj
  have hl:=r.length
  have hn:=zdH
  have I':Inv X pins σ (upd H p (.lst (xs.set j v))) { s with heap:=s.heap.update p (Obj.mapSeq (·.setIfInBounds j u)) } :=
    I.lstUpd hp ho (zdW its n j u) (r.set rv j) (by rw [List.length_set];exact hz) s.toks
  by_cases h0:0≤k
  · have hk:k.toNat=j:=by
      rw [seqIndex_of h0 h4] at h1
      exact Option.some.inj h1
    exact PySem.W.ki_setAt ho h0 (by omega) (by rw [List.size_toArray,←hl];exact h4) (by rw [hk];exact ⟨_,I',q⟩)
  · have hk:(k+(its.toArray.size:Int)).toNat=j:=by
      rw [seqIndex_neg (by omega) h3] at h1
      rw [List.size_toArray,←hl]
      exact Option.some.inj h1
    exact PySem.W.ki_setBack ho (by omega) (by rw [List.size_toArray,←hl];exact h3) (by omega) (by rw [hk];exact ⟨_,I',q⟩)
theorem ydc (lo hi:Option Int) (n:Nat):(sliceBounds lo hi none n).1=((HT.sIx n 0 lo:Nat):Int)∧(sliceBounds lo hi none n).2.1=((HT.sIx n n hi:Nat):Int)∧(sliceBounds lo hi none n).2.2=1:=by
  refine ⟨?_,?_,rfl⟩
  · cases lo with
    | none=>simp [sliceBounds,HT.sIx]
    | some i =>
      simp only [sliceBounds,HT.sIx,Option.getD_none,show (1:Int)>0 by decide,if_true]
      by_cases h:i<0
      · simp only [h,if_true] <;> omega
      · simp only [h,if_false] <;> omega
  · cases hi with
    | none=>simp [sliceBounds,HT.sIx]
    | some i =>
      simp only [sliceBounds,HT.sIx,Option.getD_none,show (1:Int)>0 by decide,if_true]
      by_cases h:i<0
      · simp only [h,if_true] <;> omega
      · simp only [h,if_false] <;> omega
theorem ycO (its:List Value) (lo hi:Option Int):slicePick its.toArray lo hi none=((its.drop (HT.sIx its.length 0 lo)).take (HT.sIx its.length its.length hi-HT.sIx its.length 0 lo)).toArray:=by
  obtain ⟨h1,h2,h3⟩:=ydc lo hi its.toArray.size
  unfold slicePick
  rw [h1,h2,h3]
  simp only [sliceRange_one,pick_run,List.size_toArray] <;> rfl
noncomputable def rSlL (K:PySem.W.Frag):V→Option Int→Option Int→Hp→VK→Prop:=fun x lo hi H Q=>∃a xs,x = .ref a∧SqL K H a xs∧∀p,H p=none→Q (.ref p) (upd H p (.lst (cutV xs lo hi)))
theorem yeb:SlR X (rSlL X.K):=by
  intro pins s σ H x v vl vu lo hi sl Q I rx hs pl pu h
  obtain ⟨a,xs,rfl,hx,q⟩:=h
  cases rx
  obtain ⟨its,r,ht,hz⟩:=I.list hx
  have hlen:=r.length
  refine ⟨"list",_,slot_list_getitem.lookup,ht.isList.typeIs,?_⟩
  refine wpAny_getItem_list_slice ht.isList hs pl pu .none (by simp) ?_ (by rw [List.size_toArray] <;> omega)
  rw [ycO,←hlen]
  refine ⟨.ref s.heap.objs.size,_,I.laid (t':=s.toks) (o:=.lst (cutV xs lo hi)) (fun b ob q=>Heap.get?_push_of_some _ q) (Nat.le_refl _) ?_,rfl,q _ (I.hok.fresh (Nat.le_refl _))⟩
  exact ⟨Nat.le_trans (ydn xs lo hi) hz,_,0,(r.drop (HT.sIx xs.length 0 lo)).take (HT.sIx xs.length xs.length hi-HT.sIx xs.length 0 lo),Heap.get?_push_size _ rfl⟩
noncomputable def ycK:V→Bool
  | .non=>true
  | .bl _=>true
  | .int _=>true
  | .str _=>true
  | _=>false
noncomputable def eqV:V→V→Bool
  | .non,.non=>true
  | .bl a,.bl b=>a==b
  | .bl a,.int b=>(if a then 1 else 0)==b
  | .int a,.bl b=>a==(if b then 1 else 0)
  | .int a,.int b=>a==b
  | .str a,.str b=>a==b
  | _,_=>false
theorem yfP {A:Around} {s:Shared} {y x:V} {u v:Value} (ry:RelV y u) (rx:RelV x v) (fy:ycK y=true) (fx:ycK x=true):SeqAt.EqAt A s u v (eqV y x):=by
  cases y with
  | non =>
    cases ry
    cases x with
    | non=>cases rx;exact SeqAt.EqAt.same _
    | bl b=>cases rx;exact SeqAt.EqAt.none_bool b
    | int b=>obtain ⟨t,rfl⟩:=rx;exact SeqAt.EqAt.none_int b t
    | str b=>obtain ⟨t,rfl⟩:=rx;exact SeqAt.EqAt.none_str b t
    | _=>exact absurd (show false=true from fx) Bool.false_ne_true
  | bl a =>
    cases ry
    cases x with
    | non=>cases rx;exact SeqAt.EqAt.bool_none a
    | bl b=>cases rx;exact SeqAt.EqAt.bool_bool a b
    | int b=>obtain ⟨t,rfl⟩:=rx;exact SeqAt.EqAt.bool_int a b t
    | str b=>obtain ⟨t,rfl⟩:=rx;exact SeqAt.EqAt.bool_str a b t
    | _=>exact absurd (show false=true from fx) Bool.false_ne_true
  | int a =>
    obtain ⟨t',rfl⟩:=ry
    cases x with
    | non=>cases rx;exact SeqAt.EqAt.int_none a t'
    | bl b=>cases rx;exact SeqAt.EqAt.int_bool a t' b
    | int b=>obtain ⟨t,rfl⟩:=rx;exact SeqAt.EqAt.int_int a t' b t
    | str b=>obtain ⟨t,rfl⟩:=rx;exact SeqAt.EqAt.int_str a t' b t
    | _=>exact absurd (show false=true from fx) Bool.false_ne_true
  | str a =>
    obtain ⟨t',rfl⟩:=ry
    cases x with
    | non=>cases rx;exact SeqAt.EqAt.str_none a t'
    | bl b=>cases rx;exact SeqAt.EqAt.str_bool a t' b
    | int b=>obtain ⟨t,rfl⟩:=rx;exact SeqAt.EqAt.str_int a t' b t
    | str b=>obtain ⟨t,rfl⟩:=rx;exact SeqAt.EqAt.str_str a t' b t
    | _=>exact absurd (show false=true from fx) Bool.false_ne_true
  | _=>exact absurd (show false=true from fy) Bool.false_ne_true
noncomputable def eqU (x:V) (u:Value):Bool:=match u with
  | .none=>eqV .non x
  | .bool b=>eqV (.bl b) x
  | .int i _=>eqV (.int i) x
  | .str z _=>eqV (.str z) x
  | _=>false
theorem yff {x y:V} {u:Value} (r:RelV y u) (f:ycK y=true):eqU x u=eqV y x:=by
  cases y with
  | non=>cases r;rfl
  | bl b=>cases r;rfl
  | int i=>obtain ⟨t,rfl⟩:=r;rfl
  | str z=>obtain ⟨t,rfl⟩:=r;rfl
  | _=>exact absurd (show false=true from f) Bool.false_ne_true
theorem yds {x:V}:∀ {xs:List V} {us:List Value},Vals xs us→xs.all ycK=true→us.any (eqU x)=xs.any fun y=>eqV y x
  | _,_,.nil,_=>rfl
  | y::xs,u::us,.cons r t,f=>by
    rw [List.all_cons,Bool.and_eq_true] at f
    rw [List.any_cons,List.any_cons,yff r f.1,yds t f.2]
theorem ycE {A:Around} {s:Shared} {x:V} {v:Value} (rx:RelV x v) (fx:ycK x=true):∀ {xs:List V} {us:List Value},Vals xs us→xs.all ycK=true→∀u∈us,SeqAt.EqAt A s u v (eqU x u)
  | _,_,.nil,_=>fun u hu=>by cases hu
  | y::xs,u::us,.cons r t,f=>fun u' hu=>by
    rw [List.all_cons,Bool.and_eq_true] at f
    rcases List.mem_cons.mp hu with rfl|hu
    · rw [yff r f.1];exact yfP r rx f.1 fx
    · exact ycE rx fx t f.2 u' hu
noncomputable def inV (x:V) (xs:List V):Bool:=xs.any fun y=>eqV y x
noncomputable def rIn (K:PySem.W.Frag) (neg:Bool):R2:=fun x y H Q=>∃p xs,y = .ref p∧(SqL K H p xs∨SqT K H p xs)∧ycK x=true∧xs.all ycK=true∧Q (.bl (if neg then !inV x xs else inV x xs)) H
theorem ybY:OpR X (compareOp .In) (rIn X.K false):=by
  intro pins s σ H x y v u Q I rx ry h
  obtain ⟨p,xs,rfl,hq,fx,fs,q⟩:=h
  cases ry
  rcases hq with hq|hq
  · obtain ⟨its,r,pl,hz⟩:=I.list hq
    refine SeqAt.in_listAt (eqU x) pl.isList (fun w hw=>ycE rx fx r fs w (by simpa using hw)) ⟨.bl _,H,I,rfl,?_⟩
    rw [show its.toArray.any (eqU x)=its.any (eqU x) by simp,yds r fs]
    exact q
  · obtain ⟨its,r,pl,hz⟩:=I.tuple hq
    refine SeqAt.in_tupleAt (eqU x) pl (fun w hw=>ycE rx fx r fs w (by simpa using hw)) ⟨.bl _,H,I,rfl,?_⟩
    rw [show its.toArray.any (eqU x)=its.any (eqU x) by simp,yds r fs]
    exact q
theorem yaz:yaT X (.builtin "len") (fun xs H Q=>∃p ys,xs=[.ref p]∧(SqL X.K H p ys∨SqT X.K H p ys)∧Q (.int ys.length) H):=by
  intro pins s σ H xs us Q I r h
  obtain ⟨p,ys,rfl,hq,q⟩:=h
  obtain ⟨u,rfl,rx⟩:=zb4 r
  cases rx
  have hn:=zdH
  rcases hq with hq|hq
  · obtain ⟨its,r',pl,hz⟩:=I.list hq
    have hlen:=r'.length
    exact Calls.call_len_list pl.isList (by simp only [List.size_toArray] <;> omega) ⟨.int ys.length,H,I.tok _,⟨s.toks+1,by rw [List.size_toArray,hlen]⟩,q⟩
  · obtain ⟨its,r',pl,hz⟩:=I.tuple hq
    have hlen:=r'.length
    exact len_tuple pl (by simp only [List.size_toArray] <;> omega) ⟨.int ys.length,H,I.tok _,⟨s.toks+1,by rw [List.size_toArray,hlen]⟩,q⟩
theorem yaT.or {f:Value} {r r':List V→Hp→VK→Prop} (h:yaT X f r) (h':yaT X f r'):yaT X f (fun xs H Q=>r xs H Q∨r' xs H Q):=by
  intro pins s σ H xs us Q I rs q
  rcases q with q|q
  · exact h pins s σ H xs us Q I rs q
  · exact h' pins s σ H xs us Q I rs q
theorem ycv:yaT X (.type "tuple") (fun xs H Q=>∃p ys,xs=[.ref p]∧((SqL X.K H p ys∧∀l,H l=none→Q (.ref l) (upd H l (.tup ys)))∨(SqT X.K H p ys∧Q (.ref p) H))):=by
  intro pins s σ H xs us Q I r h
  obtain ⟨p,ys,rfl,h⟩:=h
  obtain ⟨u,rfl,rx⟩:=zb4 r
  cases rx
  rcases h with ⟨hq,q⟩ | ⟨hq,q⟩
  · obtain ⟨its,r',pl,hz⟩:=I.list hq
    have hlen:=r'.length
    refine call_tuple_list pl.isList (fun h' kp=>?_) (by simp only [List.size_toArray] <;> omega)
    have I1:Inv X pins σ H { s with heap:=h' }:=I.kept (t':=s.toks) kp
    have I2:Inv X pins σ (upd H h'.objs.size (.tup ys)) { s with heap:=h'.push { cls:=.type "tuple",data:=.seq its.toArray } } :=
      I1.laid (t':=s.toks) (fun b o e=>Heap.get?_push_of_some _ e) (Nat.le_refl _) (show yaZ X.prog X.w _ _ _ (.tup ys) from ⟨hz,its,r',IsTup.new _ _⟩)
    exact ⟨.ref h'.objs.size,_,I2,rfl,q _ (I1.hok.fresh (Nat.le_refl _))⟩
  · obtain ⟨its,r',pl,hz⟩:=I.tuple hq
    exact call_tuple_same pl ⟨.ref p,H,I,rfl,q⟩
noncomputable def tyV (K:PySem.W.Frag) (T:String) (x:V) (H:Hp):Prop:=match x with
  | .str _=>T = "str"
  | .int _=>T = "int"
  | .ref p=>(T = "list"∧∃xs,SqL K H p xs)∨(T = "tuple"∧∃o,K.lookup p=some o∧o.cls = .type "tuple"∧o.dict=none)∨
      (T = "dict"∧((∃kvs,H p=some (.dK kvs))∨∃kvs,H p=some (.dT kvs)))∨(T = "set"∧∃S n,H p=some (.set S n))
  | _=>False
theorem zfL {pins:List (Addr×Obj)} {σ:St} {H:Hp} {s:Shared} {T:String} {x:V} {v:Value} (I:Inv X pins σ H s) (r:RelV x v) (ty:tyV X.K T x H) :
    s.TypeIs v T∧∀a,v = .ref a→∃ob,s.heap.get? a=some ob∧ob.dict=none:=by
  cases x with
  | str z =>
    obtain ⟨t,rfl⟩:=r
    cases (show T = "str" from ty)
    exact ⟨typeIs_str s z t,fun _ e=>nomatch e⟩
  | int i =>
    obtain ⟨t,rfl⟩:=r
    cases (show T = "int" from ty)
    exact ⟨typeIs_int s i t,fun _ e=>nomatch e⟩
  | ref p =>
    cases r
    rcases ty with ⟨rfl,xs,hq⟩ | ⟨rfl,o,hk,hc,hd⟩ | ⟨rfl,hk⟩ | ⟨rfl,S,n,hk⟩
    · obtain ⟨its,_,pl,_⟩:=I.list hq
      refine ⟨pl.isList.typeIs,fun a e=>?_⟩
      cases e
      obtain ⟨o,n,e,c,hd,_⟩:=pl
      exact ⟨o,e,hd⟩
    · refine ⟨⟨o,I.kIn p o hk,hc⟩,fun a e=>?_⟩
      cases e
      exact ⟨o,I.kIn _ o hk,hd⟩
    · have z:∃o,s.heap.get? p=some o∧o.ExactDict:=by
        rcases hk with ⟨kvs,hk⟩ | ⟨kvs,hk⟩
        · obtain ⟨_,_,_,_,o,_,_,e,ex,_⟩:=I.hok p _ hk
          exact ⟨o,e,ex⟩
        · obtain ⟨_,_,_,_,o,_,_,e,ex,_⟩:=I.hok p _ hk
          exact ⟨o,e,ex⟩
      obtain ⟨o,e,ex⟩:=z
      refine ⟨⟨o,e,ex.1⟩,fun a e2=>?_⟩
      cases e2
      exact ⟨o,e,ex.2.1⟩
    · obtain ⟨o,_,_,_,e,ex,_⟩:=I.hok p _ hk
      refine ⟨⟨o,e,ex.1⟩,fun a e2=>?_⟩
      cases e2
      exact ⟨o,e,ex.2.1⟩
  | _=>exact False.elim ty
noncomputable def tBM (K:PySem.W.Frag) (T:String) (r:V→List V→Hp→VK→Prop) (to:TE) (t:TA):TE:=fun σ H Q=>to σ H fun x H1=>tyV K T x H1∧t σ H1 fun xs H2=>r x xs H2 Q
variable {o e:Expr} {es:List Expr} {to:TE} {t:TA} {name:Str} {apos cpos:Pos} {T id:String} {r:V→List V→Hp→VK→Prop}
theorem ydr (pa:PlainAttrs T) (slot:Slot T name id) (hty:typeOf (.builtin id)=pure (.type "method_descriptor")) (hm:MtR X id r) (ho:PE X o to) (ha:PA X (e::es) t)
    (hbase:attributeBase o name X.env (eval o X.env)=eval o X.env:=by rfl)
    (hfew:((backTo cpos (starEach (e::es) X.env)).all (fun x=>!x.1)&&(backToKw cpos (keywordEach [] X.env)).all (fun x=>x.1.isSome)
      && decide ((e::es).length+([]:List Keyword).length+(if ([]:List Keyword).isEmpty then 0 else 1)<30))=true:=by rfl)
    (hline:(apos.endLine==cpos.line)=true:=by rfl) (hs:starEach (e::es) X.env=(false,eval e X.env)::starEach es X.env:=by rfl) (hplain:(backTo cpos (starEach es X.env)).any (·.1)=false:=by rfl) :
    PE X (.Call (.Attribute o name apos) (e::es) [] cpos) (tBM X.K T r to t):=by
  intro pins s σ H Q I h
  refine wpAny_Call_method_late hbase hfew hline rfl (thn (ho pins s σ H _ I h) fun v s1 ⟨x,H1,I1,r1,ty,q1⟩=>?_)
  obtain ⟨h1,h2⟩:=zfL I1 r1 ty
  refine ⟨T,id,pa,slot,hty,h1,h2,?_⟩
  have hA:=ha cpos pins s1 σ H1 _ I1 q1
  rw [hs] at hA ⊢
  refine Calls.callWith_builtin (by show (false||(backTo cpos (starEach es X.env)).any (·.1))=false;rw [hplain] <;> rfl) (Calls.evalArgs_plain ?_)
  exact thn hA fun us s2 ⟨vs,H2,I2,r2,q2⟩=>hm pins s2 σ H2 x vs v us Q I2 r1 r2 q2
end
end L2
namespace L2
open PySem PySem.Spec PyProof.Rows
noncomputable def MtM (X:Cx) (id:String) (r:V→List V→Hp→VK→Prop):Prop :=
  ∀(pins:List (Addr×Obj)) (s:Shared) (σ:St) (H:Hp) (x:V) (xs:List V) (v:Value) (us:List Value) (Q:VK),Inv X pins σ H s→RelV x v→Vals xs us→r x xs H Q→
    wpAny (model X.prog X.w) X.A (call (.builtin id) (v::us)) (EP X pins σ Q) X.xe s
theorem Vals.one:∀ {x:V} {us:List Value},Vals [x] us→∃u,us=[u]∧RelV x u
  | _,_,.cons r .nil=>⟨_,rfl,r⟩
theorem Vals.eraseIdx:∀ {xs:List V} {us:List Value} (i:Nat),Vals xs us→Vals (xs.eraseIdx i) (us.eraseIdx i)
  | _,_,_,.nil=>.nil
  | _,_,0,.cons _ t=>t
  | _,_,i+1,.cons r t=>.cons r (Vals.eraseIdx i t)
theorem Vals.reverse {xs:List V} {us:List Value} (h:Vals xs us):Vals xs.reverse us.reverse:=by
  induction h with
  | nil=>exact .nil
  | cons r t ih=>rw [List.reverse_cons,List.reverse_cons];exact Vals.append ih (.cons r .nil)
theorem Vals.rep {xs:List V} {us:List Value} (h:Vals xs us):∀k:Nat,Vals (List.replicate k xs).flatten (List.replicate k us).flatten
  | 0=>.nil
  | k+1=>by
    rw [List.replicate_succ,List.replicate_succ,List.flatten_cons,List.flatten_cons]
    exact Vals.append h (Vals.rep h k)
theorem zdd {α:Type}:∀(l:List α) (i:Nat),(l.eraseIdx i).length≤l.length
  | [],_=>Nat.le_refl _
  | _::_,0=>Nat.le_succ _
  | _::r,i+1=>Nat.succ_le_succ (zdd r i)
theorem zc8 (its:List Value):∀(k:Nat) (acc:List Value),
    List.foldl (fun x1 x2=>x1++x2) acc.toArray (List.replicate k its.toArray)=(acc++(List.replicate k its).flatten).toArray
  | 0,acc=>by simp
  | k+1,acc=>by
    have e:acc.toArray++its.toArray=(acc++its).toArray:=by simp
    have e2:(acc++its)++(List.replicate k its).flatten=acc++(List.replicate (k+1) its).flatten:=by
      rw [List.replicate_succ,List.flatten_cons,List.append_assoc]
    rw [←e2,←zc8 its k (acc++its),←e,List.replicate_succ,List.foldl_cons]
section
variable {X:Cx} {pins:List (Addr×Obj)} {σ:St} {H:Hp} {s:Shared} {l b:Addr} {xs ys zs:List V}
theorem Inv.lset {its its':List Value} {n:Nat} {f:Array Value→Array Value} {t':Nat} (I:Inv X pins σ H s) (hH:H l=some (.lst xs))
    (e:s.heap.get? l=some { cls:=.type "list",data:=.seq its.toArray n }) (hf:f its.toArray=its'.toArray) (hv:Vals ys its') (hz:ys.length≤sizeLine) :
    Inv X pins σ (upd H l (.lst ys)) { s with heap:=s.heap.update l (Obj.mapSeq f),toks:=t' }:=by
  have q:=PySem.IsL.update e f
  rw [hf] at q
  refine I.write (x:=l) (e:=l) (by rw [hH];exact trivial) (.inl rfl) (fun b' u hb hu=>(Heap.get?_update_other s.heap (Obj.mapSeq f) (Ne.symm hb)).trans hu) ⟨_,q⟩ ?_
  exact ⟨hz,its',_,hv,q⟩
theorem Inv.lnew {its:List Value} {t':Nat} (I:Inv X pins σ H s) (hv:Vals ys its) (hz:ys.length≤sizeLine) :
    Inv X pins σ (upd H s.heap.objs.size (.lst ys)) { s with heap:=s.heap.push { cls:=.type "list",data:=.seq its.toArray },toks:=t' } :=
  I.laid (fun _ _ q=>Heap.get?_push_of_some _ q) (Nat.le_refl _) ⟨hz,its,0,hv,Heap.get?_push_size _ rfl⟩
theorem Inv.fresh (I:Inv X pins σ H s):H s.heap.objs.size=none:=I.hok.fresh (Nat.le_refl _)
theorem Inv.lstM (I:Inv X pins σ H s) (hH:H l=some (.lst xs)):xs.length≤sizeLine∧∃(its:List Value) (n:Nat),Vals xs its∧xs.length=its.length∧s.heap.get? l=some { cls:=.type "list",data:=.seq its.toArray n }:=by
  obtain ⟨z,its,n,r,e⟩:=I.hok l _ hH
  exact ⟨z,its,n,r,r.length,e⟩
theorem zdC {n:Nat} (h:n≤sizeLine):Builtin.List.listTooLong n=false:=by
  unfold Builtin.List.listTooLong
  exact decide_eq_false (by omega)
end
section
variable {X:Cx}
noncomputable def yfz:V→List V→Hp→VK→Prop:=fun x vs H Q=>∃l xs y,x = .ref l∧vs=[y]∧H l=some (.lst xs)∧xs.length<sizeLine∧Q .non (upd H l (.lst (xs++[y])))
theorem ybf:MtM X "list.append" yfz:=by
  intro pins s σ H x vs v us Q I rx rv h
  obtain ⟨l,xs,y,rfl,rfl,hH,hz,q⟩:=h
  cases rx
  obtain ⟨u,rfl,ru⟩:=rv.one
  obtain ⟨z,its,n,r,hl,e⟩:=I.lstM hH
  refine call_meets F.slot_list_append ⟨_,e,rfl⟩ F.entry_list_append (F.args_list_append_2 _ _) (PySem.list_append l its.toArray n u (by rw [List.size_toArray];omega)) ⟨e,?_⟩
  refine ⟨.non,_,I.lset (its':=its++[u]) hH e (by simp) (r.append (.cons ru .nil)) ?_,rfl,q⟩
  rw [List.length_append,List.length_singleton]
  omega
noncomputable def yfv:V→List V→Hp→VK→Prop:=fun x vs H Q=>∃l b xs zs,x = .ref l∧vs=[.ref b]∧H l=some (.lst xs)∧H b=some (.lst zs)∧xs.length+zs.length≤sizeLine∧Q .non (upd H l (.lst (xs++zs)))
theorem yf2:MtM X "list.extend" yfv:=by
  intro pins s σ H x vs v us Q I rx rv h
  obtain ⟨l,b,xs,zs,rfl,rfl,hH,hB,hz,q⟩:=h
  cases rx
  obtain ⟨u,rfl,ru⟩:=rv.one
  cases ru
  obtain ⟨z,its,n,r,hl,e⟩:=I.lstM hH
  obtain ⟨z2,its2,n2,r2,hl2,e2⟩:=I.lstM hB
  have hsz:its.toArray.size+its2.toArray.size≤sizeLine:=by rw [List.size_toArray,List.size_toArray];omega
  have hlong:¬ (!its.toArray.isEmpty&&Builtin.List.listTooLong (its.toArray.size+its2.toArray.size))=true:=by
    rw [zdC hsz,Bool.and_false]
    exact Bool.false_ne_true
  refine call_meets F.slot_list_extend ⟨_,e,rfl⟩ F.entry_list_extend (F.args_list_extend_2 _ _)
    (AutoSeq1.list_extend_list_list_0 l its.toArray n b its2.toArray n2 hlong (by rw [List.size_toArray];omega) (by omega)) ⟨e,e2,?_⟩
  refine ⟨.non,_,I.lset (its':=its++its2) hH e (by simp) (r.append r2) ?_,rfl,q⟩
  rw [List.length_append]
  omega
noncomputable def zf6:V→List V→Hp→VK→Prop:=fun x vs H Q=>∃l xs i k y,x = .ref l∧vs=[.int i]∧H l=some (.lst xs)∧-(2^63)≤i∧i<2^63∧seqIndex? i xs.length=some k∧xs[k]?=some y∧Q y (upd H l (.lst (xs.eraseIdx k)))
theorem zeY:MtM X "list.pop" zf6:=by
  intro pins s σ H x vs v us Q I rx rv h
  obtain ⟨l,xs,i,k,y,rfl,rfl,hH,h1,h2,hk,hy,q⟩:=h
  cases rx
  obtain ⟨u,rfl,ru⟩:=rv.one
  obtain ⟨t,rfl⟩:=ru
  obtain ⟨z,its,n,r,hl,e⟩:=I.lstM hH
  obtain ⟨w,hw,rw'⟩:=r.get hy
  refine call_meets F.slot_list_pop ⟨_,e,rfl⟩ F.entry_list_pop (F.args_list_pop_2 _ _)
    (MeetsSeq.list_pop_at l its.toArray n i t k w (fitsIndex_both h1 h2) (by rw [List.size_toArray,←hl];exact hk) (by rw [←Array.getElem?_toList];exact hw) (by rw [List.size_toArray];omega)) ⟨e,?_⟩
  refine ⟨y,_,I.lset (its':=its.eraseIdx k) hH e ?_ (r.eraseIdx k) ?_,rw',q⟩
  · show its.toArray.eraseIdxIfInBounds k=(its.eraseIdx k).toArray
    rw [List.eraseIdxIfInBounds_toArray]
  · have:=zdd xs k
    omega
noncomputable def rCat:R2:=fun x y H Q=>∃l b xs zs,x = .ref l∧y = .ref b∧H l=some (.lst xs)∧H b=some (.lst zs)∧xs.length+zs.length≤sizeLine∧∀p,H p=none→Q (.ref p) (upd H p (.lst (xs++zs)))
theorem yfM:OpR X (binaryOp .Add) rCat:=by
  intro pins s σ H x y v u Q I rx ry h
  obtain ⟨l,b,xs,zs,rfl,rfl,hH,hB,hz,q⟩:=h
  cases rx
  cases ry
  obtain ⟨z,its,n,r,hl,e⟩:=I.lstM hH
  obtain ⟨z2,its2,n2,r2,hl2,e2⟩:=I.lstM hB
  refine PySem.P.add_list e e2 ?_ (by rw [List.size_toArray,List.size_toArray];omega)
  have ea:its.toArray++its2.toArray=(its++its2).toArray:=by simp
  rw [ea]
  exact ⟨.ref _,_,I.lnew (t':=s.toks) (r.append r2) (by rw [List.length_append];omega),rfl,q _ I.fresh⟩
noncomputable def rRep:R2:=fun x y H Q=>∃l k xs,x = .ref l∧y = .int k∧H l=some (.lst xs)∧-(2^63)≤k∧k<2^63∧xs.length*k.toNat≤sizeLine∧
  ∀p,H p=none→Q (.ref p) (upd H p (.lst (List.replicate k.toNat xs).flatten))
theorem yft {α:Type} (xs:List α) (k:Nat):(List.replicate k xs).flatten.length=k*xs.length:=by
  induction k with
  | zero=>simp
  | succ k ih=>rw [List.replicate_succ,List.flatten_cons,List.length_append,ih,Nat.succ_mul,Nat.add_comm]
theorem zfY:OpR X (binaryOp .Mult) rRep:=by
  intro pins s σ H x y v u Q I rx ry h
  obtain ⟨l,k,xs,rfl,rfl,hH,h1,h2,hz,q⟩:=h
  cases rx
  obtain ⟨t,rfl⟩:=ry
  obtain ⟨z,its,n,r,hl,e⟩:=I.lstM hH
  have hlen:its.toArray.size*k.toNat≤sizeLine:=by rw [List.size_toArray,←hl];exact hz
  have hcap:¬ its.toArray.size*k.toNat>(2^63-1)/8:=by
    have:(sizeLine:Nat)≤(2^63-1)/8:=by decide
    omega
  have hfit:¬ (!Builtin.List.listFitsIndex k)=true:=by
    rw [fitsIndex_both h1 h2]
    exact Bool.false_ne_true
  have hlong:¬ Builtin.List.listTooLong (its.toArray.size*k.toNat)=true:=by
    rw [zdC hlen]
    exact Bool.false_ne_true
  have hnew:List.foldl (fun x1 x2=>x1++x2) #[] (List.replicate (if its.toArray.isEmpty=true then 0 else k.toNat) its.toArray)=(List.replicate k.toNat its).flatten.toArray:=by
    have f0:∀m:Nat,List.foldl (fun x1 x2=>x1++x2) #[] (List.replicate m its.toArray)=(List.replicate m its).flatten.toArray:=fun m=>by
      have:=zc8 its m []
      rw [List.nil_append] at this
      exact this
    rw [f0]
    cases its with
    | nil=>simp
    | cons a r'=>rw [if_neg (by simp)]
  refine wpAny_binaryOp_repeat_ref (T:="list") (U:="int") (by decide) ⟨_,e,rfl⟩ (fun s'=>typeIs_int s' k t) noFill_list_mul F.fills_int_mul F.slot_int_rmul repeat_list F.slot_int_index.lookup
    (call_meets F.slot_int_rmul (typeIs_int s k t) F.entry_int_rmul (F.args_int_rmul_2 _ _) (int___rmul___int_list k t l its.toArray n)
      ⟨e,rfl,⟨_,e,rfl⟩,call_meets F.slot_list_mul ⟨_,e,rfl⟩ F.entry_list_mul (F.args_list_mul_2 _ _) (AutoListH.list___mul___list_int_3 l its.toArray n k t hfit hcap hlong) ⟨e,?_⟩⟩)
  rw [hnew]
  exact ⟨.ref _,_,I.lnew (t':=s.toks) (r.rep k.toNat) (by rw [yft,Nat.mul_comm];exact hz),rfl,q _ I.fresh⟩
end
section
variable {prog:Program} {w:World} {A:Around} {E:Value→Shared→Prop} {s:Shared}
end
section
variable {X:Cx}
end
end L2
namespace Att
open PySem PySem.W PySem.Calls PyProof.Rows
theorem ycb {P:Params} {h:Heap}:∀(ns:List Int) (vs:List Value),WellAll P h vs (ns.map WData.int)→IntsAre vs ns:=by
  intro ns
  induction ns with
  | nil =>
    intro vs w
    rw [List.map_nil] at w
    cases w
    exact .nil
  | cons n ns ih =>
    intro vs w
    rw [List.map_cons] at w
    cases w with
    | cons a b =>
      cases a
      exact .cons _ _ (ih _ b)
theorem zeb {l:OpenLaw} {n:Nat} (hn:l.most=some n) {P:Params} {h:Heap} {args:List WData} {vals:List Value}
    (hpre:l.row.toRowW.claim.pre args=true) (hwl:WellAll P h vals args) :
    ∃a vs ns,vals=[Value.ref a]∧args=[WData.list (ns.map WData.int)]∧h.get? a=some { cls:=.type "list",data:=.seq vs.toArray }∧IntsAre vs ns∧ns.length≤n:=by
  have hsh:WShape.hasAll [] args [.list .int]=true:=(pre_splitW hpre).1
  have hc:l.pre.holds [] { args:=args }=true:=(pre_splitW hpre).2
  obtain ⟨d,r,rfl,h1,h2⟩:=hasAllW_cons hsh
  obtain rfl:=hasAllW_nil h2
  obtain ⟨xs,rfl,h3⟩:=hasW_list h1
  obtain ⟨ns,rfl⟩:=items_int h3
  have hlen:ns.length≤n:=by
    unfold OpenLaw.pre at hc
    have h4:(WTm.not (.lt (.lit (.int (n:Int))) (.len (.arg 0)))).holds [] { args:=[.list (ns.map .int)] }=true:=by
      have h4:=(holds_andW hc).1
      rw [hn] at h4
      exact h4
    have h5:=condW_of h4 (w_not (w_lt w_lit (w_len_list (w_arg rfl))))
    rw [List.length_map] at h5
    refine Nat.le_of_not_lt fun q=>?_
    have q':(n:Int)<((ns.length:Nat):Int):=by omega
    first
      | (rw [decide_eq_true q'] at h5;exact absurd h5 (by decide))
      | (simp at h5;omega)
  cases hwl with
  | cons w1 w2 =>
    cases w2
    cases w1 with
    | list ho hall=>exact ⟨_,_,ns,rfl,rfl,ho,ycb ns _ hall,hlen⟩
theorem zer (l:OpenLaw) (args:List WData):l.row.toRowW.claim.post args (.bool true) args=true :=
  postW_of (r:=l.row.toRowW) (X:=(true==true))
    (show WShape.has [] (.bool true) .bool=true by first|rfl|decide|simp [WShape.has,WShape.arms,WShape.armsAll])
    (show (WTm.eq .res (.lit (.bool true))).value [] { args:=args,res:=some (.bool true),after:=args }=some (.bool (true==true)) from w_eq_bool (w_res rfl) w_lit) rfl
theorem attach_call {l:OpenLaw} {n:Nat} {q:Program} {loose:List Str} {XP:(Str→Option Value)→Heap→Prop} {YP:World→Heap→Prop} {d:DefRec}
    (hn:l.most=some n) (hdf:d.params.defaults=[])
    (call:∀(w:World) (s₀ s₁:Shared) (mg mb:Str→Option Value) (fa:Addr) (o:Obj) (pm cd doc:Value) (a:Addr) (vs:List Value) (ns:List Int),
      Ground q loose [] XP w s₀ mg mb s₁.heap→YP w s₁.heap→
      s₁.heap.get? fa=some o→o.data = .func (docDef d.name d.params d.body d.scope pm cd doc)→s₁.heap.CodeRec cd d.name→mg d.name=some (.ref fa)→
      s₁.heap.get? a=some { cls:=.type "list",data:=.seq vs.toArray }→IntsAre vs ns→ns.length≤n→s₁.gens = #[]→
      codeAny (model l.prog w) callerA (.call (.ref fa) ⟨[.ref a],[]⟩) (fun r s'=>r = .ok (.ret (.bool true))∧OldK s₁.heap s'.heap∧s'.os=s₁.os∧AllBare s'.gens) s₁) :
    WalkO q loose XP YP l.row.toRowW d [] (fun f vs=>PySem.call f vs):=by
  intro w s₀ s₁ mg mb G Y fa o pm cd doc dV kV ho hd hcd hD hmg hg args vals as hpre hlay hrd hwl hlo
  obtain rfl:dV = .none:=Dflts.none hD hdf
  obtain rfl:kV = .none:=Dflts.noKw hD
  obtain ⟨a,vs,ns,rfl,rfl,hobj,hints,hlen⟩:=zeb hn hpre hwl
  refine enter_call (codeAny_mono (call w s₀ s₁ mg mb fa o pm cd doc a vs ns G Y ho (fd_plain hd) hcd hmg hobj hints hlen hg) fun r s' hq=>?_)
  obtain ⟨rfl,h2,h3,h4⟩:=hq
  exact ⟨.inl ⟨.bool true,.bool true,[],rfl,fun _=>rfl,.bool true,zer l _,fun _=>⟨List.Pairwise.nil,fun _ hm=>(nomatch hm)⟩⟩,h2,h3,h4⟩
section
variable {prog:Program} {w:World} {A:Around} {E:Value→Shared→Prop} {s:Shared} {K:Frag}
end
end Att
namespace L2
open PySem PySem.Spec PyProof.Rows
theorem zcS:∀ {vs:List Value} {ns:List Int},IntsAre vs ns→Vals (ns.map V.int) vs
  | _,_,.nil=>.nil
  | _,_,.cons n t h=>.cons ⟨t,rfl⟩ (zcS h)
noncomputable def Only (H:Hp):Prop:=∀b,H b=none∨∃o xs,H b=some (.frz o (.lst xs))
theorem ye0 {P:Program} {w:World} {K:PySem.W.Frag} {mg mb:Str→Option Value} {CX:CXT} {k:Nat} {fa a:Addr} {fd:FuncData} {x:Str} {sp:Sp} {s₁:Shared} {vs:List Value} {ns:List Int}
    (KX:K.In s₁.heap) (hns:s₁.heap.Ns mainGlobals mg) (hb:s₁.heap.Ns builtinsNs mb) (hbb:∀x:Str,x≠"__name__"→mb x=bootBuiltins x) (hlim:s₁.heap.NoLimit) (hg:s₁.gens = #[])
    (ha:s₁.heap.get? a=some { cls:=.type "list",data:=.seq vs.toArray }) (hi:IntsAre vs ns) (hl:ns.length≤sizeLine) (hr:Room k callerA)
    (F:∀base:Heap,K.In base→base.Ns mainGlobals mg→FnOk P w K mg base CX k fa fd [x] sp) (hbind:∀(s:Shared) (u:Value),BindsTo s fd ⟨[u],[]⟩ [(x,u)])
    (hsp:∀H:Hp,Only H→SqL K H a (ns.map V.int)→sp [.ref a] H (fun v _=>v = .bl true) fun _ _ _=>False)
    (hCX:∀H e s',CX [] H s₁ (fun _ _ _=>False) e s'→False) :
    codeAny (model P w) callerA (.call (.ref fa) ⟨[.ref a],[]⟩) (fun r s'=>r = .ok (.ret (.bool true))∧OldK s₁.heap s'.heap∧s'.os=s₁.os∧AllBare s'.gens) s₁:=by
  have rv:=zcS hi
  have lenV:=hi.length
  have core:∀H:Hp,Only H→SqL K H a (ns.map V.int)→HOk P w H s₁.heap→(∀b,H b≠none→b=a)→(H a≠none→K.lookup a=none)→
      codeAny (model P w) callerA (.call (.ref fa) ⟨[.ref a],[]⟩) (fun r s'=>r = .ok (.ret (.bool true))∧OldK s₁.heap s'.heap∧s'.os=s₁.os∧AllBare s'.gens) s₁:=by
    intro H hO hS hok hA hK
    have base_of:∀ {b:Addr} {o:Obj},s₁.heap.get? b=some o→H b=none→(hidT s₁.heap H).get? b=some o:=fun e n=>ye6 e n
    have noA:∀ {b:Addr} {o:Obj} {es:Array DictEntry} {ep:Nat},s₁.heap.get? b=some o→o.data = .dict es ep→H b=none:=fun {b o es ep} e d=>by
      cases q:H b with
      | none=>rfl
      | some u =>
        have e':b=a:=hA b (by rw [q];simp)
        subst e'
        rw [ha] at e;cases e
        have d':Data.seq vs.toArray _=Data.dict es ep:=d
        cases d'
    have nsK:∀ {b:Addr} {m:Str→Option Value},s₁.heap.Ns b m→(hidT s₁.heap H).Ns b m:=fun {b m} ⟨o,es,ep,e,d,r⟩=>⟨o,es,ep,base_of e (noA e d),d,r⟩
    have hKb:K.In (hidT s₁.heap H):=fun b o e=>base_of (KX b o e) (by
      cases q:H b with
      | none=>rfl
      | some u =>
        have e':b=a:=hA b (by rw [q];simp)
        subst e'
        rw [hK (by rw [q];simp)] at e;cases e)
    have hM:Mod K mg (hidT s₁.heap H):=⟨hKb,nsK hns,⟨mb,nsK hb,hbb⟩,let ⟨mc,h1,h2⟩:=hlim;⟨mc,nsK h1,h2⟩⟩
    have e0:Env0 P w K mg (hidT s₁.heap H) callerA [] s₁ H:=⟨rfl,hM,fun b o e=>zfz e,Nat.le_of_eq (yeq _ _),trivial,fun b hb=>absurd (show b∈([]:List Addr) from hb) (by simp),hok,.of_eq hg⟩
    refine codeAny_mono ((F _ hKb (nsK hns)).run callerA [] s₁ H ⟨[.ref a],[]⟩ [.ref a] [.ref a] _ _ hr e0 (hbind s₁ (.ref a)) (.cons rfl .nil) (hsp H hO hS)) fun r s' h=>?_
    cases r with
    | error e=>exact (hCX H e s' h).elim
    | ok fl =>
      cases fl with
      | next=>exact False.elim h
      | brk=>exact False.elim h
      | cont=>exact False.elim h
      | ret u =>
        obtain ⟨v,H',os,bare,un,hok',r',q⟩:=h
        have q':v = .bl true:=q
        subst q'
        obtain rfl:u=Value.bool true:=r'
        refine ⟨rfl,OldK.of_keep fun b o e=>?_,os,bare⟩
        cases q:H b with
        | none=>exact un.keep b o e q (by intro z;exact absurd (show b∈([]:List Addr) from z) (by simp)) (by simp)
        | some u =>
          rcases hO b with z | ⟨ob,xs,z⟩
          · rw [q] at z;cases z
          · have z2:=un.frzs b ob _ z
            obtain ⟨e1,_⟩:=hok b _ z
            obtain ⟨e2,_⟩:=hok' b _ z2
            rw [e] at e1;cases e1
            exact e2
  cases hk:K.lookup a with
  | some o =>
    have e:=KX a o hk
    rw [ha] at e
    cases e
    refine core (fun _=>none) (fun _=>.inl rfl) (.inr ⟨_,vs.toArray,_,hk,rfl,rfl,rfl,by rw [List.size_toArray,lenV];exact hl,by simpa using rv⟩) (fun b u z=>by have z':(none:Option HO)=some u:=z;cases z') (fun b z=>absurd rfl z) fun z=>absurd rfl z
  | none =>
    refine core (fun b=>if b=a then some (.frz { cls:=.type "list",data:=.seq vs.toArray } (.lst (ns.map V.int))) else none) (fun b=>?_) (.inl (.inr ⟨{ cls:=.type "list",data:=.seq vs.toArray },if_pos rfl⟩)) (fun b u z=>?_) (fun b z=>?_) fun _=>hk
    · by_cases hb:b=a
      · exact .inr ⟨_,_,if_pos hb⟩
      · exact .inl (if_neg hb)
    · by_cases hb:b=a
      · have z':=(if_pos hb).symm.trans z
        cases z'
        subst hb
        exact ⟨ha,by rw [List.length_map];exact hl,vs,_,rv,ha⟩
      · have z':=(if_neg hb).symm.trans z
        cases z'
    · by_cases hb:b=a
      · exact hb
      · exact absurd (if_neg hb) z
end L2
namespace L2
open PySem PySem.Spec PyProof.Rows
noncomputable abbrev KOf {K:PySem.W.Frag} {h:Heap} (_:K.In h):PySem.W.Frag:=K
theorem walk_of {l:PySem.W.OpenLaw} {n k:Nat} {q:Program} {loose:List Str} {XP:(Str→Option Value)→Heap→Prop} {YP:World→Heap→Prop} {d:DefRec} {K:Params→PySem.W.Frag} {CX:World→CXT} {sp:World→Sp} {x:Str}
    (hn:l.most=some n) (hn2:n≤sizeLine) (hdf:d.params.defaults=[]) (hr:Room k callerA)
    (hY:∀(w:World) (h:Heap),YP w h→(K w.params).In h)
    (F:∀(w:World) (mg:Str→Option Value) (fa:Addr) (h:Heap),(K w.params).In h→h.Ns mainGlobals mg→mg d.name=some (.ref fa)→
      ∃fd:FuncData,(∀(s:Shared) (u:Value),BindsTo s fd ⟨[u],[]⟩ [(x,u)])∧
        ∀base:Heap,(K w.params).In base→base.Ns mainGlobals mg→FnOk l.prog w (K w.params) mg base (CX w) k fa fd [x] (sp w))
    (hsp:∀(w:World) (H:Hp) (a:Addr) (ns:List Int),ns.length≤n→Only H→SqL (K w.params) H a (ns.map V.int)→sp w [.ref a] H (fun v _=>v = .bl true) fun _ _ _=>False)
    (hCX:∀(w:World) (H:Hp) (s:Shared) (e:Value) (s':Shared),CX w [] H s (fun _ _ _=>False) e s'→False) :
    PySem.W.WalkO q loose XP YP l.row.toRowW d [] (fun f vs=>PySem.call f vs):=by
  refine Att.attach_call hn hdf fun w s₀ s₁ mg mb fa o pm cd doc a vs ns G Y ho hd hcd hmg hobj hints hlen hg=>?_
  have KX:=hY w _ Y
  obtain ⟨fd,hb,hF⟩:=F w mg fa _ KX G.T.g hmg
  exact ye0 KX G.T.g G.T.b G.T.builtins G.T.nolimit hg hobj hints (Nat.le_trans hlen hn2) hr hF hb (fun H hO hS=>hsp w H a ns hlen hO hS) fun H e s'=>hCX w H s₁ e s'
end L2
namespace L2
open PySem PySem.Spec PyProof.Rows
noncomputable def yaj (s:Stmt):Arguments:=match s with
  | .FunctionDef _ a _ _ _ _ _ _ _ _=>a
  | _=>{ posonlyargs:=[],args:=[],vararg:=none,kwonlyargs:=[],kw_defaults:=[],kwarg:=none,defaults:=[] }
noncomputable def zai (s:Stmt):List Stmt:=match s with
  | .FunctionDef _ _ b _ _ _ _ _ _ _=>b
  | _=>[]
noncomputable def zac (s:Stmt):Scope:=match s with
  | .FunctionDef _ _ _ _ _ _ sc _ _ _=>sc
  | _=>{ kind:=.function,names:=[],isGenerator:=false,isCoroutine:=false }
noncomputable abbrev CX0:CXT:=fun _ _ _ _ _ _=>False
noncomputable abbrev E0:XK:=fun _ _ _=>False
theorem ygc {X:Cx}:zeH CX0 X E0:=fun _ _ _ _ _ _ _ h=>h.elim
structure Fun (K:PySem.W.Frag) (x qual:Str) (st:Stmt) (f:Addr) (fd:FuncData):Prop where
  ex:∃(oc:Value) (od:Option Addr) (kV doc pm:Value) (an:Option Addr) (cdv ct:Value) (osl:Array (Option Value)),
    fd=PySem.W.fnOf x qual (yaj st) (zai st) (zac st) .none kV doc pm an cdv ct∧K.lookup f=some ⟨oc,od,.func fd,osl⟩∧PySem.W.codeIn K cdv qual=true
  kp:PySem.W.keepIn K (.ref f)=true
section
variable {P:Program} {w:World} {K:PySem.W.Frag} {mg:Str→Option Value} {base:Heap}
theorem Fun.ok {x qual:Str} {st:Stmt} {f:Addr} {fd:FuncData} {N ps:List Str} {k:Nat} {sp:Sp} (F:Fun K x qual st f fd) (S:zak N ps (zac st)) (len:∀vs H Q E,sp vs H Q E→vs.length=ps.length)
    (hbody:∀(cdv:Value) (A:Around) (outer:List Env) (s:Shared) (H:Hp) (vs:List V) (Q:VK) (E:XK),Room k (A.deeper (envOfC qual (zac st) s.heap.objs.size f cdv))→sp vs H Q E→
      ∃t,PSs (cxOf CX0 P w K mg base N qual (zac st) f cdv A outer s H E).nox (zai st) t∧t { nx:=fun _ H'=>Q .non H',rt:=Q } (ycz N vs) H):FnOk P w K mg base CX0 (k+1) f fd ps sp:=by
  obtain ⟨oc,od,kV,doc,pm,an,cdv,ct,osl,rfl,lk,hcd⟩:=F.ex
  refine yfV lk hcd S len fun A outer s H vs Q E hr hsp=>?_
  obtain ⟨t,h,q⟩:=hbody cdv A outer s H vs Q E hr hsp
  exact ⟨t,h.nox,q⟩
theorem Fun.binds {x qual:Str} {st:Stmt} {f:Addr} {fd:FuncData} {ps:List Str} (F:Fun K x qual st f fd)
    (h:∀(kV doc pm:Value) (an:Option Addr) (cdv ct:Value) (us:List Value),us.length=ps.length→bindArgs (PySem.W.fnOf x qual (yaj st) (zai st) (zac st) .none kV doc pm an cdv ct) ⟨us,[]⟩=pure (ps.zip us)):ydg K fd ps []:=by
  obtain ⟨oc,od,kV,doc,pm,an,cdv,ct,osl,rfl,lk,hcd⟩:=F.ex
  exact .all (h kV doc pm an cdv ct)
theorem yap {x qual:Str} {st:Stmt} {f:Addr} {oc:Value} {od an:Option Addr} {osl:Array (Option Value)} {kV doc pm cdv ct:Value} (l:K.lookup f=some ⟨oc,od,.func (PySem.W.fnOf x qual (yaj st) (zai st) (zac st) .none kV doc pm an cdv ct),osl⟩)
    (c:PySem.W.codeIn K cdv qual=true) (k:PySem.W.keepIn K (.ref f)=true):Fun K x qual st f (PySem.W.fnOf x qual (yaj st) (zai st) (zac st) .none kV doc pm an cdv ct):=⟨⟨oc,od,kV,doc,pm,an,cdv,ct,osl,rfl,l,c⟩,k⟩
end
theorem ycc {A:Around} {k:Nat} (hr:Room k A):A.units+1<cLine:=Nat.lt_of_le_of_lt (Nat.add_le_add_left (by decide:1≤64) _) hr.units
theorem zap {n:Nat} (h:n≤1000):n<sizeLine:=Nat.lt_of_le_of_lt h (by decide)
section
variable {X:Cx}
theorem pv (i:Nat) {x:Str} {pos:Pos} (hN:X.N[i]?=some x:=by rfl) (hv:Vis X.env.scope x:=by first|exact Or.inl rfl|exact Or.inr (Or.inl rfl)|exact Or.inr (Or.inr rfl)) (hd:(x==("__debug__":Str))=false:=by decide)
    (hcd:(x==("__classdict__":Str))=false:=by decide):PE X (.Name x pos) (tVar i):=zf8 hN hv hd hcd
end
theorem ite2 {c A B:Prop} [Decidable c] (h1:c→A) (h2:¬ c→B):if c then A else B:=by
  by_cases h:c
  · rw [if_pos h]
    exact h1 h
  · rw [if_neg h]
    exact h2 h
noncomputable def Same (H H':Hp):Prop:=∀b o,H b=some o→H' b=some o
theorem Same.refl (H:Hp):Same H H:=fun _ _ h=>h
theorem Same.trans {H H1 H2:Hp} (a:Same H H1) (b:Same H1 H2):Same H H2:=fun c o h=>b c o (a c o h)
theorem Same.free {H H':Hp} (e:Same H H') {l:Addr} (h:H' l=Option.none):H l=Option.none:=by
  cases q:H l with
  | none=>rfl
  | some o =>
    rw [e l o q] at h
    cases h
theorem Same.seq {K:PySem.W.Frag} {H H':Hp} {a:Addr} {xs:List V} (e:Same H H') (h:SqL K H a xs):SqL K H' a xs:=by
  rcases h with (h | ⟨o,h⟩)|h
  · exact .inl (.inl (e _ _ h))
  · exact .inl (.inr ⟨o,e _ _ h⟩)
  · exact .inr h
end L2
end
section
-- text: PpDict
set_option Elab.async false
set_option linter.all false
set_option maxRecDepth 100000
namespace L2
open PySem PySem.Spec PyProof.Rows
section
variable {κ:Type} [DecidableEq κ]
noncomputable def valV (kvs:List (κ×V)) (k:κ):Option V:=(kvs.find? fun kv=>decide (kv.1=k)).map (·.2)
noncomputable def putK (kvs:List (κ×V)) (k:κ) (v:V):List (κ×V) :=
  if (kvs.any fun kv=>decide (kv.1=k))=true then kvs.map (fun kv=>if kv.1=k then (kv.1,v) else kv) else kvs++[(k,v)]
theorem ydS {p:κ×V} {r:List (κ×V)} {k:κ} (e:p.1=k):valV (p::r) k=some p.2:=by simp [valV,List.find?_cons,e]
theorem ydM {p:κ×V} {r:List (κ×V)} {k:κ} (e:¬ p.1=k):valV (p::r) k=valV r k:=by simp [valV,List.find?_cons,e]
theorem ydl (kvs:List (κ×V)) (k:κ) (v:V):(putK kvs k v).length≤kvs.length+1:=by
  unfold putK
  split
  · rw [List.length_map];omega
  · rw [List.length_append,List.length_cons,List.length_nil];omega
theorem KV.val {kvs:List (κ×V)} {vs:List (κ×Value)} (r:KV kvs vs) (k:κ):RelO (valV kvs k) (valueAt vs k):=by
  unfold KV at r
  induction r with
  | nil=>exact True.intro
  | @cons p q ps qs h t ih =>
    obtain ⟨h1,h2⟩:=h
    by_cases e:p.1=k
    · have e':q.1=k:=h1.symm.trans e
      have b:valueAt (q::qs) k=some q.2:=by simp [valueAt,List.find?_cons,e']
      rw [ydS e,b];exact h2
    · have e':¬ q.1=k:=fun z=>e (h1.trans z)
      have b:valueAt (q::qs) k=valueAt qs k:=by simp [valueAt,List.find?_cons,e']
      rw [ydM e,b];exact ih
theorem KV.any {kvs:List (κ×V)} {vs:List (κ×Value)} (r:KV kvs vs) (k:κ):(kvs.any fun kv=>decide (kv.1=k))=vs.any fun kv=>decide (kv.1=k):=by
  unfold KV at r
  induction r with
  | nil=>rfl
  | cons h t ih=>rw [List.any_cons,List.any_cons,ih,h.1]
theorem KV.repl {kvs:List (κ×V)} {vs:List (κ×Value)} (r:KV kvs vs) (k:κ) {y:V} {u:Value} (ry:RelV y u) :
    KV (kvs.map fun kv=>if kv.1=k then (kv.1,y) else kv) (vs.map fun kv=>if kv.1=k then (kv.1,u) else kv):=by
  unfold KV at r ⊢
  induction r with
  | nil=>exact .nil
  | @cons p q ps qs h t ih =>
    rw [List.map_cons,List.map_cons]
    refine .cons ?_ ih
    obtain ⟨h1,h2⟩:=h
    by_cases e:p.1=k
    · rw [if_pos e,if_pos (h1.symm.trans e)];exact ⟨h1,ry⟩
    · rw [if_neg e,if_neg (fun z=>e (h1.trans z))];exact ⟨h1,h2⟩
theorem KV.put {kvs:List (κ×V)} {vs:List (κ×Value)} (r:KV kvs vs) (k:κ) {y:V} {u:Value} (ry:RelV y u):KV (putK kvs k y) (stored vs k u):=by
  unfold putK stored
  rw [r.any k]
  by_cases e:(vs.any fun kv=>decide (kv.1=k))=true
  · rw [if_pos e,if_pos e];exact r.repl k ry
  · rw [if_neg e,if_neg e];exact Paired.snoc r ⟨rfl,ry⟩
theorem KV.keys {kvs:List (κ×V)} {vs:List (κ×Value)} (r:KV kvs vs):kvs.map (·.1)=vs.map (·.1):=by
  unfold KV at r
  induction r with
  | nil=>rfl
  | cons h t ih=>rw [List.map_cons,List.map_cons,ih,h.1]
end
theorem zeN {P:Program} {w:World} {k:Key} {u:Value} (r:RelV (kV k) u):(zaH P w).is k u=true:=by
  cases k with
  | inl i=>obtain ⟨t,e⟩:=(show ∃t,u=Value.int i t from r);subst e;exact zds P w i t
  | inr x=>obtain ⟨t,e⟩:=(show ∃t,u=Value.str x t from r);subst e;exact ydv P w x t
theorem ycV {P:Program} {w:World}:∀ {ks:List Key} {us:List Value},Vals (ks.map kV) us→ItemsAre (zaH P w) ks us
  | [],_,r=>by rw [List.map_nil] at r;cases r;exact .nil
  | k::ks,_,r=>by
    rw [List.map_cons] at r
    cases r with
    | cons h t=>exact .cons (zeN h) (ycV t)
noncomputable abbrev KT (H:Hp):List (List Key×V)→List (List Key×Addr×Value)→Prop:=Paired fun p q=>p.1=q.1∧H q.2.1=some (.tup (p.1.map kV))∧RelV p.2 q.2.2
theorem KT.val {H:Hp} {kvs:List (List Key×V)} {xs:List (List Key×Addr×Value)} (r:KT H kvs xs) (k:List Key):RelO (valV kvs k) ((atKey xs k).map (·.2)):=by
  induction r with
  | nil=>exact True.intro
  | @cons p q ps qs h t ih =>
    obtain ⟨h1,_,h2⟩:=h
    by_cases e:p.1=k
    · have e':q.1=k:=h1.symm.trans e
      have b:atKey (q::qs) k=some q.2:=by simp [atKey,List.find?_cons,e']
      rw [ydS e,b];exact h2
    · have e':¬ q.1=k:=fun z=>e (h1.trans z)
      have b:atKey (q::qs) k=atKey qs k:=by simp [atKey,List.find?_cons,e']
      rw [ydM e,b];exact ih
section
variable {P:Program} {w:World} {H:Hp} {h:Heap} {a:Addr}
theorem yfX {u:HO} (ok:HOk P w H h) (e:Rd H a u):yaZ P w H h a u:=e.ok ok
theorem zfw {kvs:List (Key×V)} (ok:HOk P w H h) (e:Rd H a (.dK kvs)):kvs.length≤sizeLine∧(a==sysModules)=false∧∃vs,KV kvs vs∧h.DictOf (zaH P w) a vs :=
  show yaZ P w H h a (.dK kvs) from yfX ok e
theorem ygh {kvs:List (Key×V)} (ok:HOk P w H h) (e:H a=some (.dK kvs)):kvs.length≤sizeLine∧(a==sysModules)=false∧∃vs,KV kvs vs∧h.DictOf (zaH P w) a vs:=zfw ok (.inl e)
theorem yfk {ks:List Key} (ok:HOk P w H h) (e:H a=some (.tup (ks.map kV))):(tupleKind (zaH P w)).is h ks a:=by
  obtain ⟨_,its,r,o,h1,h2,n,h3⟩:=(show yaZ P w H h a (.tup (ks.map kV)) from ok a _ e)
  exact ⟨o,its.toArray,n,h1,h2,h3,by simpa using ycV r⟩
theorem yfS {kvs:List (List Key×V)} (ok:HOk P w H h) (e:Rd H a (.dT kvs)):kvs.length≤sizeLine∧(a==sysModules)=false∧
    ∃xs,KT H kvs xs∧h.DictOfH (tupleKind (zaH P w)) a xs:=by
  obtain ⟨z,y,xs,r,o,es,ep,h1,h2,h3,h4,h5⟩:=(show yaZ P w H h a (.dT kvs) from yfX ok e)
  refine ⟨z,y,xs,r,o,es,ep,h1,h2,h3,h4,fun x hx=>?_,h5⟩
  have all:∀ {l:List (List Key×V)} {m:List (List Key×Addr×Value)},KT H l m→∀x∈m,(tupleKind (zaH P w)).is h x.1 x.2.1:=by
    intro l m q
    induction q with
    | nil=>intro x hx;exact nomatch hx
    | @cons p q ps qs hq t ih =>
      intro x hx
      rcases List.mem_cons.mp hx with e|hx
      · subst e
        exact yfk ok (by rw [←hq.1];exact hq.2.1)
      · exact ih x hx
  exact all r x hx
end
noncomputable def DGet (H:Hp) (a:Addr) (y:V) (r:Option V):Prop :=
  (∃kvs k,Rd H a (.dK kvs)∧y=kV k∧r=valV kvs k)∨∃kvs k b,Rd H a (.dT kvs)∧y = .ref b∧H b=some (.tup (k.map kV))∧r=valV kvs k
theorem DGet.k {H:Hp} {a:Addr} {kvs:List (Key×V)} {k:Key} (e:H a=some (.dK kvs)):DGet H a (kV k) (valV kvs k):=.inl ⟨kvs,k,.inl e,rfl,rfl⟩
section
variable {X:Cx} {pins:List (Addr×Obj)} {σ:St} {H:Hp} {s:Shared} {a:Addr} {y v:V} {u r:Value} {o:Option V} {A:Around} {E:Value→Shared→Prop}
theorem Inv.big (I:Inv X pins σ H s):sysModules<s.heap.objs.size:=by
  have h:mainGlobals<s.heap.objs.size:=(I.mod.glob.keeps I.bk).lt
  exact Nat.lt_trans (by decide) h
theorem zeh {Q:Value→Shared→Prop} (hu:A.units+1<cLine) (I:Inv X pins σ H s) (g:DGet H a y (some v)) (ry:RelV y u) (h:∀w' s',Inv X pins σ H s'→RelV v w'→Q w' s') :
    wpAny (model X.prog X.w) A (getItem (.ref a) u) Q E s:=by
  rcases g with ⟨kvs,k,e,ey,l⟩ | ⟨kvs,k,b,e,ey,eb,l⟩
  · subst ey
    obtain ⟨z,hd,vs,rel,dd⟩:=zfw I.hok e
    obtain ⟨w',hw,rw'⟩:=RelO.some_of (v:=v) (o:=valueAt vs k) (by rw [l];exact rel.val k)
    exact wpAny_getItem_of (zeN ry) dd.mapOf hw (h w' _ (I.tok _) rw')
  · subst ey
    cases (show u=Value.ref b from ry)
    obtain ⟨z,hd,xs,rel,dd⟩:=yfS I.hok e
    obtain ⟨w',hw,rw'⟩:=RelO.some_of (v:=v) (o:=(atKey xs k).map (·.2)) (by rw [l];exact rel.val k)
    obtain ⟨p,hp,hp2⟩:=Option.map_eq_some_iff.mp hw
    refine wpAny_getItem_heap (tupleKind_room_in1 hu) (yfk I.hok eb) dd hp ?_
    rw [hp2]
    exact h w' _ (I.tok _) rw'
theorem yfu {h':Heap} {t':Nat} {ob:HO} (I:Inv X pins σ H s) (mu:Mut (H a)) (hs:Heap.SameBut a s.heap h') (he:∃q,h'.get? a=some q) (new:yaZ X.prog X.w (upd H a ob) h' a ob) :
    Inv X pins σ (upd H a ob) { s with heap:=h',toks:=t' } :=
  I.write (x:=a) (e:=a) mu (.inl rfl) (fun b q hb z=>(hs.2 b hb).trans z) he new
theorem yfN {P:Program} {w:World} {H':Hp} {h':Heap} {kvs:List (Key×V)} {vs:List (Key×Value)} (z:kvs.length≤sizeLine) (hd:(a==sysModules)=false) (rel:KV kvs vs) (dd:h'.DictOf (zaH P w) a vs) :
    yaZ P w H' h' a (.dK kvs):=⟨z,hd,vs,rel,dd⟩
end
section
variable {X:Cx} {pins:List (Addr×Obj)} {σ:St} {H:Hp} {s:Shared} {a:Addr} {kvs:List (Key×V)} {k:Key} {u:Value} {A:Around} {E:Value→Shared→Prop}
end
noncomputable def NoSl (i:Expr):Prop:=∀ov iv,subscripted i false ov iv=operate [ov,iv] (getItem ov iv)
theorem zfr {prog:Program} {w:World} {A:Around} {E:Value→Shared→Prop} {s:Shared} {env:Env} {value slice:Expr} {pos:Pos} {T id:String} {Q:Value→Shared→Prop}
    (hl:typeLookup (.type T) "__getitem__"=pure (some (.builtin id))) (hs:NoSl slice)
    (h:wpAny (model prog w) A (eval value env) (fun o s₁=>wpAny (model prog w) A (eval slice env) (fun i s₂=>s₂.TypeIs o T∧wpAny (model prog w) A (getItem o i) Q E s₂) E s₁) E s) :
    wpAny (model prog w) A (eval (.Subscript value slice pos) env) Q E s:=by
  refine Subscript_ (wpAny_mono h (fun o s₁ h₁=>wpAny_mono h₁ (fun i s₂ h₂=>?_) fun _ _ x=>x) fun _ _ x=>x)
  obtain ⟨hT,h₂⟩:=h₂
  unfold subscriptTail
  refine wpAny_bind ?_
  rw [getitemInPython_of_ne hT.not_modules]
  refine wpAny_bind (wpAny_specialOf hT hl ?_)
  have fin:wpAny (model prog w) A (subscripted slice false o i) (fun r s₃=>wpAny (model prog w) A (letTemporaryGo value o r >>= fun _=>pure r) Q E s₃) E s₂:=by
    rw [hs o i]
    exact wpAny_operating (wpAny_mono h₂ (fun r s₃ h₃=>wpAny_bind (wpAny_letTemporaryGo (wpAny_pure h₃))) fun _ _ x=>x)
  first
    | exact wpAny_pure (wpAny_bind fin)
    | exact wpAny_bind (wpAny_pure (wpAny_bind fin))
    | exact wpAny_bind fin
theorem zdy {X:Cx} {pins:List (Addr×Obj)} {σ:St} {H:Hp} {s:Shared} {a:Addr} {y:V} {o:Option V} (I:Inv X pins σ H s) (g:DGet H a y o):s.TypeIs (.ref a) "dict":=by
  rcases g with ⟨kvs,k,e,_,_⟩ | ⟨kvs,k,b,e,_,_,_⟩
  · obtain ⟨_,_,vs,_,dd⟩:=zfw I.hok e
    exact dd.typeIs
  · obtain ⟨_,_,xs,_,dd⟩:=yfS I.hok e
    exact dd.typeIs
noncomputable def ygl (td ty:TE):TE:=fun σ H Q=>td σ H fun x H1=>ty σ H1 fun y H2=>∃a v,x = .ref a∧DGet H2 a y (some v)∧Q v H2
section
variable {X:Cx} {o i e value:Expr} {pos pos' tpos:Pos} {td ty tv:TE}
theorem za7 (hu:X.A.units+1<cLine) (ho:PE X o td) (hi:PE X i ty) (hs:NoSl i):PE X (.Subscript o i pos) (ygl td ty):=by
  intro pins s σ H Q I h
  refine zfr PySem.F.slot_dict_getitem.lookup hs (thn (ho pins s σ H _ I h) fun u s1 ⟨x,H1,I1,rx,q1⟩=>thn (hi pins s1 σ H1 _ I1 q1) fun iv s2 ⟨y,H2,I2,ry,a,v,ex,g,q2⟩=>?_)
  subst ex
  obtain rfl:u=Value.ref a:=rx
  exact ⟨zdy I2 g,zeh hu I2 g ry fun w' s3 I3 rw'=>⟨v,H2,I3,rw',q2⟩⟩
end
theorem yeS {P:Program} {w:World} {H:Hp} (h:Heap) (hb:sysModules<h.objs.size):yaZ P w H (h.push { cls:=.type "dict",data:=.dict #[] }) h.objs.size (.dK []) :=
  ⟨Nat.zero_le _,beq_eq_false_iff_ne.mpr (Ne.symm (Nat.ne_of_lt hb)),[],.nil,Heap.DictOf.new h⟩
section
variable {X:Cx} {pos:Pos}
end
noncomputable def zd6:List (TE×TE)→St→Hp→(List (V×V)→Hp→Prop)→Prop
  | [],_,H,Q=>Q [] H
  | (tk,tv)::r,σ,H,Q=>tk σ H fun x H1=>tv σ H1 fun y H2=>zd6 r σ H2 fun ps H3=>Q ((x,y)::ps) H3
noncomputable abbrev VV:List (V×V)→List (Value×Value)→Prop:=Paired fun p q=>RelV p.1 q.1∧RelV p.2 q.2
noncomputable def PPs (X:Cx) (pos:Pos) (keys:List (Option Expr)) (values:List Expr) (trs:List (TE×TE)):Prop :=
  ∀(pins:List (Addr×Obj)) (s:Shared) (σ:St) (H:Hp) (Q:List (V×V)→Hp→Prop),Inv X pins σ H s→zd6 trs σ H Q→
    wpAny (model X.prog X.w) X.A (evalPairs (pairTrees keys values X.env pos)) (fun vs s'=>∃ps H',Inv X pins σ H' s'∧VV ps vs∧Q ps H') X.xe s
theorem zfp {X:Cx} {pos:Pos}:PPs X pos [] [] []:=fun pins s σ H Q I h=>pairTrees_nil_walk ⟨[],H,I,.nil,h⟩
theorem ybu {X:Cx} {pos:Pos} {k v:Expr} {ks:List (Option Expr)} {vs:List Expr} {tk tv:TE} {trs:List (TE×TE)} (hk:PE X k tk) (hv:PE X v tv) (hr:PPs X pos ks vs trs) :
    PPs X pos (some k::ks) (v::vs) ((tk,tv)::trs):=fun pins s σ H Q I h =>
  pairTrees_cons_walk (thn (hk pins s σ H _ I h) fun u s1 ⟨x,H1,I1,rx,q1⟩=>thn (hv pins s1 σ H1 _ I1 q1) fun w2 s2 ⟨y,H2,I2,ry,q2⟩ =>
    thn (hr pins s2 σ H2 _ I2 q2) fun ws s3 ⟨ps,H3,I3,rel,q3⟩=>⟨(x,y)::ps,H3,I3,.cons ⟨rx,ry⟩ rel,q3⟩)
noncomputable def ycr (kvs more:List (Key×V)):List (Key×V):=more.foldl (fun acc kv=>putK acc kv.1 kv.2) kvs
theorem KV.merge:∀ {more:List (Key×V)} {rs:List (Key×Value)} {kvs:List (Key×V)} {vs:List (Key×Value)},KV more rs→KV kvs vs→KV (ycr kvs more) (merged vs rs):=by
  intro more rs kvs vs r
  unfold KV at r
  induction r generalizing kvs vs with
  | nil=>intro q;exact q
  | @cons p q ps qs h t ih =>
    intro r0
    have e:KV (putK kvs p.1 p.2) (stored vs q.1 q.2):=by
      have:=r0.put p.1 h.2
      rw [←h.1];exact this
    exact ih e
theorem ybI:∀(more kvs:List (Key×V)),(ycr kvs more).length≤kvs.length+more.length
  | [],kvs=>by show kvs.length≤kvs.length+0;omega
  | p::r,kvs=>by
    have h1:=ybI r (putK kvs p.1 p.2)
    have h2:=ydl kvs p.1 p.2
    show (ycr (putK kvs p.1 p.2) r).length≤_
    rw [List.length_cons];omega
theorem zck {P:Program} {w:World}:∀ {kvs:List (Key×V)} {ws:List (Value×Value)},VV (kvs.map fun kv=>(kV kv.1,kv.2)) ws→∃rs,Carries (zaH P w) ws rs∧KV kvs rs
  | [],_,r=>by rw [List.map_nil] at r;cases r;exact ⟨[],True.intro,.nil⟩
  | p::kvs,_,r=>by
    rw [List.map_cons] at r
    cases r with
    | @cons a b as bs h t =>
      obtain ⟨rs,c,q⟩:=zck (P:=P) (w:=w) t
      obtain ⟨b1,b2⟩:=b
      exact ⟨(p.1,b2)::rs,⟨zeN h.1,rfl,c⟩,.cons ⟨rfl,h.2⟩ q⟩
noncomputable def ygf (trs:List (TE×TE)):TE:=fun σ H Q=>∀p,H p=none→zd6 trs σ (upd H p (.dK [])) fun ps H2=>H2 p=some (.dK [])∧∃kvs:List (Key×V),ps=kvs.map (fun kv=>(kV kv.1,kv.2))∧kvs.length≤15∧Q (.ref p) (upd H2 p (.dK (ycr [] kvs)))
theorem zfo {X:Cx} {pos:Pos} {keys:List (Option Expr)} {values:List Expr} {trs:List (TE×TE)} (h:PPs X pos keys values trs) (hall:keys.all (·.isSome)=true) (hl:keys.length=values.length) (h0:keys≠[])
    (h15:keys.length≤15):PE X (.Dict keys values pos) (ygf trs):=by
  intro pins s σ H Q I q
  have hn:=I.hok.fresh (Nat.le_refl s.heap.objs.size)
  have I1:=I.laid (a:=s.heap.objs.size) (o:=.dK []) (h':=s.heap.push { cls:=.type "dict",data:=.dict #[] }) (t':=s.toks) (fun _ _ q=>Heap.get?_push_of_some _ q) (Nat.le_refl _) (yeS s.heap I.big)
  refine wpAny_Dict_walk (knd:=zaH X.prog X.w) hall hl h0 h15 (thn (h pins _ σ _ _ I1 (q _ hn)) fun ws s2 ⟨ps,H2,I2,rel,e,kvs,ep,lk,q2⟩=>?_)
  subst ep
  obtain ⟨rs,c,rk⟩:=zck (P:=X.prog) (w:=X.w) rel
  obtain ⟨z,hd,vs0,r0,dd⟩:=ygh I2.hok e
  cases r0
  refine ⟨rs,c,dd,fun h' dd' hs=>⟨.ref s.heap.objs.size,_,?_,rfl,q2⟩⟩
  have hz:(ycr [] kvs).length≤sizeLine:=by
    have h1:=ybI kvs []
    rw [List.length_nil] at h1
    rw [sizeLine_eq];omega
  have he:∃q,h'.get? s.heap.objs.size=some q:=let ⟨q,_,_,hq,_⟩:=dd';⟨q,hq⟩
  exact yfu I2 (by rw [e];exact True.intro) hs he (yfN hz hd (rk.merge .nil) dd')
structure M1 (X:Cx) (o:Expr) (m:Str) (apos:Pos) (e:Expr) (cpos:Pos):Prop where
  base:attributeBase o m X.env (eval o X.env)=eval o X.env
  few:((backTo cpos (starEach [e] X.env)).all (fun x=>!x.1)&&(backToKw cpos (keywordEach [] X.env)).all (fun x=>x.1.isSome)
    && decide (([e]:List Expr).length+([]:List Keyword).length+(if ([]:List Keyword).isEmpty then 0 else 1)<30))=true
  line:(apos.endLine==cpos.line)=true
  trees:backTo cpos (starEach [e] X.env)=[(false,eval e X.env)]
structure M2 (X:Cx) (o:Expr) (m:Str) (apos:Pos) (e f:Expr) (cpos:Pos):Prop where
  base:attributeBase o m X.env (eval o X.env)=eval o X.env
  few:((backTo cpos (starEach [e,f] X.env)).all (fun x=>!x.1)&&(backToKw cpos (keywordEach [] X.env)).all (fun x=>x.1.isSome)
    && decide (([e,f]:List Expr).length+([]:List Keyword).length+(if ([]:List Keyword).isEmpty then 0 else 1)<30))=true
  line:(apos.endLine==cpos.line)=true
  trees:backTo cpos (starEach [e,f] X.env)=[(false,eval e X.env),(false,eval f X.env)]
section
variable {X:Cx} {pins:List (Addr×Obj)} {σ:St} {H:Hp} {s:Shared} {a:Addr} {y d:V} {u r:Value} {o:Option V} {A:Around} {E:Value→Shared→Prop}
end
section
variable {X:Cx} {o e f:Expr} {apos cpos:Pos} {td ty tx:TE}
end
section
variable {X:Cx} {pins:List (Addr×Obj)} {σ:St} {H:Hp} {s:Shared} {a:Addr} {kvs:List (Key×V)} {A:Around} {E:Value→Shared→Prop}
end
section
variable {X:Cx} {pins:List (Addr×Obj)} {σ:St} {H:Hp} {s:Shared} {a:Addr} {y:V} {u:Value} {A:Around} {E:Value→Shared→Prop}
end
end L2
namespace L2
open PySem PySem.Spec PyProof.Rows
section
variable {X:Cx}
end
end L2
namespace L2
open PySem PySem.Spec PyProof.Rows
section
variable {κ:Type} [DecidableEq κ]
end
end L2
end
section
-- text: ExtA
set_option Elab.async false
set_option linter.all false
set_option maxRecDepth 100000
set_option maxHeartbeats 4000000
namespace L2
open PySem PySem.Spec PyProof.Rows
section
variable {prog:Program} {w:World} {A:Around} {R:Result→Shared→Prop} {s:Shared}
theorem zdr {elt target iter:Expr} {ifs:List Expr} {scope:Scope} {pos:Pos} {it acc:Value} {env:Env} (I:Nat→Shared→Prop)
    (turn:∀n s,I n s→wpAny (model prog w) A (pyNext it) (fun r s₁=>match r with
      | none=>R (.ok .next) s₁
      | some v=>wpAny (model prog w) A (letOwnedTupleGo target it v) (fun _ s₁'=>wpAny (model prog w) A (assign target env v) (fun _ s₂ =>
          wpAny (model prog w) A (forIn ifs true fun c r=>if r=true then do let ok ←isTrue c env (eval c env);pure (ForInStep.yield ok) else pure (ForInStep.yield r)) (fun ok s₃ =>
            if ok=true then wpAny (model prog w) A (eval elt env) (fun x s₄ =>
              wpAny (model prog w) A (call (.builtin "list.append") [acc,x]) (fun _ s₅=>∃m,m<n∧I m s₅) (fun _ _=>False) s₄) (fun _ _=>False) s₃
            else ∃m,m<n∧I m s₃) (fun _ _=>False) s₂) (fun _ _=>False) s₁') (fun _ _=>False) s₁) (fun _ _=>False) s)
    (n:Nat) (h:I n s):codeAny (model prog w) A (.compLoop (.ListComp elt [⟨target,iter,ifs,0⟩] scope pos) 0 it acc env) R s:=by
  refine codeAny_loop rfl I (fun n s hI=>?_) n h
  show wpAny _ A ((compTurn (.ListComp elt [⟨target,iter,ifs,0⟩] scope pos) 0 it acc env).onRaise (fun x=>do noteFrame x env;theTreesLotGoes x)) _ _ s
  refine wpAny_noted (wpAny_noRaise ?_)
  rw [compTurn_list]
  refine wpAny_bind (wpAny_standAt (wpAny_bind (wpAny_mono (turn n s hI) (fun r s₁ h₁=>?_) fun _ _ h'=>h')))
  cases r with
  | none=>exact wpAny_pure h₁
  | some v =>
    refine wpAny_bind (wpAny_mono h₁ (fun _ s₁' h₁'=>?_) fun _ _ h'=>h')
    refine wpAny_bind (wpAny_mono h₁' (fun _ s₂ h₂=>wpAny_bind (wpAny_mono h₂ (fun ok s₃ h₃=>?_) fun _ _ h'=>h')) fun _ _ h'=>h')
    cases ok with
    | false=>exact wpAny_pure ⟨rfl,h₃⟩
    | true =>
      exact wpAny_bind (wpAny_bind (wpAny_mono h₃ (fun x s₄ h₄=>wpAny_bind (wpAny_mono h₄ (fun _ s₅ h₅=>wpAny_pure (wpAny_pure ⟨rfl,h₅⟩)) fun _ _ h'=>h')) fun _ _ h'=>h'))
end
theorem zaR {α:Type} {x:Str} {k:α}:∀ {l:List (Str×α)},l.lookup x=some k→(x,k)∈l:=fun h=>PySem.mem_of_lookup h
theorem ya8 {scope:Scope} {env:Env} (h:∀x∈scope.names,x.2 = .free→∃c,env.cells.lookup x.1=some c) :
    ∃cl,closureFor scope env=pure cl∧(∀n c,cl.lookup n=some c→env.cells.lookup n=some c)∧(∀n,(n,NameKind.free)∈scope.names→∃c,cl.lookup n=some c):=by
  have aux:∀(names:List (Str×NameKind)) (cs:List (Str×Addr)),(∀x∈names,x.2 = .free→∃c,env.cells.lookup x.1=some c)→(∀n c,cs.lookup n=some c→env.cells.lookup n=some c)→
      ∃cl,(forIn names cs fun x r=>if (x.2==NameKind.free)=true then do let a ←cellOf env x.1;pure (ForInStep.yield ((x.1,a)::r)) else pure (ForInStep.yield r):Sem (List (Str×Addr)))=pure cl∧
        (∀n c,cl.lookup n=some c→env.cells.lookup n=some c)∧(∀n,((n,NameKind.free)∈names∨∃c,cs.lookup n=some c)→∃c,cl.lookup n=some c):=by
    intro names
    induction names with
    | nil=>intro cs _ hc;exact ⟨cs,rfl,hc,fun n h=>h.elim (fun z=>nomatch z) id⟩
    | cons x r ih =>
      intro cs hx hc
      obtain ⟨n,k⟩:=x
      have hr:∀x∈r,x.2 = .free→∃c,env.cells.lookup x.1=some c:=fun y hy=>hx y (List.mem_cons_of_mem _ hy)
      by_cases hk:k = .free
      · subst hk
        obtain ⟨c,e⟩:=hx (n,.free) List.mem_cons_self rfl
        have hc':∀m d,List.lookup m ((n,c)::cs)=some d→env.cells.lookup m=some d:=fun m d hm=>by
          rw [List.lookup_cons] at hm
          cases hb:m==n with
          | true=>rw [hb] at hm;cases hm;rw [eq_of_beq hb];exact e
          | false=>rw [hb] at hm;exact hc m d hm
        obtain ⟨cl,h1,h2,h3⟩:=ih ((n,c)::cs) hr hc'
        refine ⟨cl,?_,h2,fun m hm=>h3 m ?_⟩
        · rw [List.forIn_cons]
          have e2:cellOf env n=pure c:=by unfold cellOf;rw [e]
          simp only [beq_self_eq_true,if_true,e2]
          exact h1
        · rcases hm with hm | ⟨d,hm⟩
          · rcases List.mem_cons.mp hm with q|q
            · cases q;exact .inr ⟨c,by rw [List.lookup_cons,beq_self_eq_true]⟩
            · exact .inl q
          · refine .inr ?_
            rw [List.lookup_cons]
            cases hb:m==n with
            | true=>exact ⟨c,rfl⟩
            | false=>exact ⟨d,hm⟩
      · obtain ⟨cl,h1,h2,h3⟩:=ih cs hr hc
        refine ⟨cl,?_,h2,fun m hm=>h3 m ?_⟩
        · rw [List.forIn_cons]
          have:(k==NameKind.free)=false:=by simpa using hk
          simp only [this,Bool.false_eq_true,if_false]
          exact h1
        · rcases hm with hm|hm
          · rcases List.mem_cons.mp hm with q|q
            · cases q;exact absurd rfl hk
            · exact .inl q
          · exact .inr hm
  obtain ⟨cl,h1,h2,h3⟩:=aux scope.names [] h (fun n c z=>by simp at z)
  refine ⟨cl,?_,h2,fun n hn=>h3 n (.inl hn)⟩
  simp only [closureFor]
  rw [h1]
  rfl
theorem zaO {env:Env}:∀ {names:List (Str×NameKind)} {x:Str} {k:NameKind},
    (names.map fun (n,k)=>if (k==NameKind.free&&env.scope.kind==.function&&env.kindOf n==some .cell) then (n,NameKind.cell) else (n,k)).lookup x=some k→(k = .cell∨k = .free)→
    names.lookup x=some .free∨names.lookup x=some .cell
  | [],_,_,h,_=>by simp at h
  | (n,q)::r,x,k,h,hk=>by
    have ih:=@zaO env r x k
    rw [List.map_cons,List.lookup_cons] at h
    rw [List.lookup_cons]
    by_cases hc:(q==NameKind.free&&env.scope.kind==.function&&env.kindOf n==some .cell)=true
    · simp only [if_pos hc] at h
      cases hx:x==n with
      | true =>
        have:q = .free:=by
          have:=(Bool.and_eq_true_iff.mp (Bool.and_eq_true_iff.mp hc).1).1
          exact eq_of_beq this
        simp [this]
      | false=>rw [hx] at h;exact ih h hk
    · simp only [if_neg hc] at h
      cases hx:x==n with
      | true =>
        rw [hx] at h
        cases h
        rcases hk with rfl|rfl
        · exact .inr rfl
        · exact .inl rfl
      | false=>rw [hx] at h;exact ih h hk
theorem ybq {env:Env}:∀ {names:List (Str×NameKind)} {x:Str},names.lookup x=some .free→
    (names.map fun (n,k)=>if (k==NameKind.free&&env.scope.kind==.function&&env.kindOf n==some .cell) then (n,NameKind.cell) else (n,k)).lookup x=some .cell∨
    (names.map fun (n,k)=>if (k==NameKind.free&&env.scope.kind==.function&&env.kindOf n==some .cell) then (n,NameKind.cell) else (n,k)).lookup x=some .free
  | [],_,h=>by simp at h
  | (n,q)::r,x,h=>by
    have ih:=@ybq env r x
    rw [List.map_cons,List.lookup_cons]
    rw [List.lookup_cons] at h
    by_cases hc:(q==NameKind.free&&env.scope.kind==.function&&env.kindOf n==some .cell)=true
    · simp only [if_pos hc]
      cases hx:x==n with
      | true=>exact .inl rfl
      | false=>rw [hx] at h;exact ih h
    · simp only [if_neg hc]
      cases hx:x==n with
      | true=>rw [hx] at h;cases h;exact .inr rfl
      | false=>rw [hx] at h;exact ih h
noncomputable def cxC (X:Cx) (N:List Str) (scope:Scope) (cl:List (Str×Addr)) (C:Addr) (fp:List Addr) (s:Shared) (H:Hp):Cx :=
  { prog:=X.prog,w:=X.w,K:=X.K,mg:=X.mg,base:=X.base,A:=X.A,N:=N,s₀:=s,H₀:=H,env:=compEnvC scope cl C X.env,outer:=X.stack,stack:=X.stack,ex:=fp,fn:=fun _=>false,calm:=X.calm,pn:=[],xe:=fun _ _=>False }
structure CSc (M:List Str) (sc:Scope) (tg cp:List Str) (ci:List Nat) (scope:Scope):Prop where
  kind:scope.kind = .function
  nocell:∀x∈scope.names,x.2≠.cell
  loc:∀x∈scope.names,x.2 = .local→scope.names.lookup x.1=some .local
  free:∀x∈scope.names,x.2 = .free→sc.names.lookup x.1=some .cell∨sc.names.lookup x.1=some .free
  cap:∀x∈cp,scope.names.lookup x=some .free
  at_:ci.map (M[·]?)=cp.map some
  nd:(tg++cp).Nodup
noncomputable def capσ (k:Nat) (ci:List Nat) (σ:St):St:=List.replicate k none++ci.map fun i=>(σ[i]?).join
noncomputable abbrev zeV:=Nat→Nat→List V→Hp→Prop
noncomputable def zft (wi:TI) (k:Nat) (ci:List Nat) (g:TG) (ti:TT) (te:TE):TE:=fun σ H Q=>wi σ H fun J H1=>∃W:zeV,(∃m,W 0 m [] H1)∧∀i m acc H,W i m acc H→
  (J.stop i H∧∀D,H D=none→Q (.ref D) (upd H D (.lst acc)))∨
  (J.go i H∧acc.length<sizeLine∧∃N:List V→Hp→Prop,(∀acc' H',N acc' H'→∃m',m'<m∧W (i+1) m' acc' H')∧∀x H',J.yld i H x H'→g x (capσ k ci σ) H' fun σ2 H2=>ti σ2 H2 fun b H3=>if b=true then te σ2 H3 fun v H4=>N (acc++[v]) H4 else N acc H3)
noncomputable def PIfs (X:Cx) (ifs:List Expr) (t:TT):Prop :=
  ∀(pins:List (Addr×Obj)) (s:Shared) (σ:St) (H:Hp) (Q:Bool→Hp→Prop),Inv X pins σ H s→t σ H Q→
    wpAny (model X.prog X.w) X.A (forIn ifs true fun c r=>if r=true then do let ok ←isTrue c X.env (eval c X.env);pure (ForInStep.yield ok) else pure (ForInStep.yield r)) (TP X pins σ Q) X.xe s
noncomputable def yga:TT:=fun _ H Q=>Q true H
theorem yba {X:Cx}:PIfs X [] yga:=fun pins s σ H Q I h=>wpAny_tests_nil ⟨H,I,h⟩
theorem ybv {X:Cx} {c:Expr} {t:TT} (h:PT X c t):PIfs X [c] t:=fun pins s σ H Q I hq=>wpAny_tests_one (h pins s σ H Q I hq)
section
variable {X:Cx}
structure Gone (X:Cx) (pins:List (Addr×Obj)) (H:Hp) (s:Shared) (C:Addr):Prop where
  ns:∃m,s.heap.Ns C m
  free:H C=none
  ne:C≠X.env.locals
  ab:X.s₀.heap.objs.size≤C
  cells:∀x c,X.env.cells.lookup x=some c→c≠C
  pins:∀p∈X.pn++pins,p.1≠C
  nofs:C∉X.fs
theorem ydK {elt target iter:Expr} {ifs:List Expr} {scope:Scope} {pos:Pos} {tg cp:List Str} {ci:List Nat} {wi:TI} {g:TG} {ti:TT} {te:TE}
    {pins:List (Addr×Obj)} {s:Shared} {σ:St} {H:Hp} {Q:VK} {cl:List (Str×Addr)}
    (S:CSc X.N X.env.scope tg cp ci scope) (hcalm:X.calm=true) (hi:PI X target iter wi)
    (hcl1:∀n c,cl.lookup n=some c→X.env.cells.lookup n=some c) (hcl2:∀n,(n,NameKind.free)∈scope.names→∃c,cl.lookup n=some c)
    (hg:∀C fp s H,PG (cxC X (tg++cp) scope cl C fp s H) target g) (ht:∀C fp s H,PIfs (cxC X (tg++cp) scope cl C fp s H) ifs ti) (he:∀C fp s H,PE (cxC X (tg++cp) scope cl C fp s H) elt te)
    (I:Inv X pins σ H s) (h:zft wi tg.length ci g ti te σ H Q) :
    wpAny (model X.prog X.w) X.A (eval iter X.env) (fun x s₁=>wpAny (model X.prog X.w) X.A (pyIter x) (fun it s₂=>wpAny (model X.prog X.w) X.A (newList []) (fun acc s₃ =>
      wpAny (model X.prog X.w) X.A (newFunctionEnv scope X.env.globals cl [] X.env.qual none .none (some X.env)) (fun cenv s₄ =>
        codeAny (model X.prog X.w) X.A (.compStart (.ListComp elt [⟨target,iter,ifs,0⟩] scope pos) 0 it acc { cenv with scope:=relabel scope X.env })
          (fun r s'=>∃D vs H',acc = .ref D∧r = .ok .next∧Inv X pins σ (upd H' D (.lst vs)) s'∧H' D=none∧Gone X pins (upd H' D (.lst vs)) s' cenv.locals∧∀D',H' D'=none→Q (.ref D') (upd H' D' (.lst vs))) s₄) X.xe s₃) X.xe s₂) X.xe s₁) X.xe s:=by
  refine thn (hi pins s σ H _ I h) fun v s1 h1=>thn h1 fun itv s2 h2=>?_
  obtain ⟨it,fp,tn,J,H2,e,I2,T,st2,f2,W,⟨m0,w0⟩,turn⟩:=h2
  subst e
  refine wpAny_newObj_type (wpAny_newFunctionEnv S.nocell (by intro y hy;simp at hy) (fun h₁ hns₁ hsb₁=>?_) S.kind)
  dsimp only at hns₁ hsb₁ ⊢
  generalize hHL:s2.heap.push { cls:=.type "list",dict:=none,data:=.seq ([]:List Value).toArray }=HL at hns₁ hsb₁ ⊢
  have hC:HL.objs.size=s2.heap.objs.size+1:=by rw [←hHL,Heap.size_push]
  generalize hD:s2.heap.objs.size=D at hC ⊢
  generalize hCC:HL.objs.size=C at hns₁ hsb₁ hC ⊢
  have hDC:D≠C:=by omega
  have old:∀b o,s2.heap.get? b=some o→h₁.get? b=some o:=fun b o e=>by
    have lt:s2.heap.objs.size≥Nat.succ b:=Heap.lt_size e
    refine hsb₁.extBut b o (show @Ne Nat b C by omega) (Heap.get?_push_of_some _ (hHL ▸ Heap.get?_push_of_some _ e))
  have hD1:h₁.get? D=some { cls:=.type "list",data:=.seq ([]:List Value).toArray 0 }:=by
    refine hsb₁.extBut D _ hDC (Heap.get?_push_of_some _ ?_)
    rw [←hHL,←hD]
    exact Heap.get?_push_size _ rfl
  have fD:H2 D=none:=I2.hok.fresh (by omega)
  have fC:H2 C=none:=I2.hok.fresh (by omega)
  let X':Cx:=cxC X (tg++cp) scope cl C fp s2 H2
  have ok':X'.Ok:=by
    refine ⟨I2.ok.mod,?_,I2.ok.glob,I2.ok.blt,?_,?_,?_,?_,I2.ok.hd,I2.ok.frames,.inl rfl,?_,I2.bs,Nat.le_trans I2.ok.bsz I2.sz,?_,?_,I2.stack,I2.stkFree⟩
    · exact S.kind
    · show s2.heap.objs.size≤C;omega
    · intro x y c hx hy;exact I2.ok.inj x y c (hcl1 x c hx) (hcl1 y c hy)
    · intro x hx
      have hx':(relabel scope X.env).names.lookup x=some .cell∨(relabel scope X.env).names.lookup x=some .free:=hx
      have q:scope.names.lookup x=some .free∨scope.names.lookup x=some .cell:=by
        rcases hx' with z|z
        · exact zaO z (.inl rfl)
        · exact zaO z (.inr rfl)
      rcases q with q|q
      · exact hcl2 x (zaR q)
      · exact absurd rfl (S.nocell _ (zaR q))
    · intro x c hx;cases hx
    · intro b hb
      obtain ⟨o,eo,_⟩:=T.obj _ _ st2 b hb
      have lt:s2.heap.objs.size≥Nat.succ b:=Heap.lt_size eo
      exact ⟨by show @Ne Nat b C;omega,fun x c hx=>(f2 b hb).2.2.2.2.1 x c (hcl1 x c hx)⟩
    · intro b o e hb
      rcases (f2 b hb).2.2.2.1 with z|z
      · exact I2.ok.noex b o e z
      · have l1:X.base.objs.size≥Nat.succ b:=Heap.lt_size e
        have l2:X.base.objs.size≤X.s₀.heap.objs.size:=I2.ok.bsz
        have l3:X.s₀.heap.objs.size≤(b:Nat):=z
        omega
    · intro b hb hbs
      rcases List.mem_cons.mp (I2.stkSub b hbs) with z|z
      · exact (f2 b hb).2.1 z
      · exact (f2 b hb).2.2.1 z
  have capLen:(capσ tg.length ci σ).length=X'.N.length:=by
    show (List.replicate tg.length none++ci.map fun i=>(σ[i]?).join).length=(tg++cp).length
    have:=congrArg List.length S.at_
    simp only [List.length_map] at this
    simp [this]
  have capLook:∀(h':Heap) (m':Str→Option Value),(∀x c o,X.env.cells.lookup x=some c→s2.heap.get? c=some o→∃sl,h'.get? c=some { o with slots:=sl })→
      ∀(i:Nat) (x:Str) (v:V),X'.N[i]?=some x→(capσ tg.length ci σ)[i]?=some (some v)→Vis X'.env.scope x→∃u,RelV v u∧Look X'.env h' m' x u:=by
    intro h' m' hcell i x v e1 e2 e3
    have e1':(tg++cp)[i]?=some x:=e1
    have e2':(List.replicate tg.length none++ci.map fun i=>(σ[i]?).join)[i]?=some (some v):=e2
    by_cases hi':i<tg.length
    · rw [List.getElem?_append_left (by simpa using hi'),List.getElem?_replicate] at e2'
      split at e2' <;> cases e2'
    · rw [List.getElem?_append_right (by simpa using hi'),List.length_replicate,List.getElem?_map] at e2'
      rw [List.getElem?_append_right (by omega)] at e1'
      cases hj:ci[i-tg.length]? with
      | none=>rw [hj] at e2';cases e2'
      | some j =>
        rw [hj] at e2'
        have e2'':(σ[j]?).join=some v:=Option.some.inj e2'
        have e4:σ[j]?=some (some v):=by
          cases q:σ[j]? with
          | none=>rw [q] at e2'';cases e2''
          | some z=>rw [q] at e2'';exact congrArg some e2''
        have e5:X.N[j]?=some x:=by
          have:=congrArg (·[i-tg.length]?) S.at_
          simp only [List.getElem?_map,hj,e1',Option.map_some] at this
          exact Option.some.inj this
        have hx:scope.names.lookup x=some .free:=S.cap x (List.mem_of_getElem? e1')
        have hk:=S.free (x,.free) (zaR hx) rfl
        obtain ⟨m,hn,hl⟩:=I2.loc
        obtain ⟨u,r,l⟩:=hl j x v e5 e4 (.inr hk)
        refine ⟨u,r,.inr ⟨?_,?_⟩⟩
        · exact ybq hx
        · rcases l with ⟨k1,_⟩ | ⟨_,c,k2,k3⟩
          · have k1':X.env.scope.names.lookup x=some .local:=k1
            rcases hk with z|z <;> (rw [z] at k1';cases k1')
          · obtain ⟨c',hc'⟩:=hcl2 x (zaR hx)
            have:=hcl1 x c' hc'
            rw [k2] at this;cases this
            obtain ⟨o,ho,hd⟩:=k3
            obtain ⟨sl,q⟩:=hcell x c o k2 ho
            exact ⟨c,hc',_,q,hd⟩
  have I':∀tk,Inv X' [] (capσ tg.length ci σ) H2 { s2 with heap:=h₁,toks:=tk }:=fun tk=>by
    refine ⟨ok',rfl,I2.bare,Un.kept old,⟨_,hns₁,capLook _ _ fun x c o _ e=>⟨o.slots,old c o e⟩⟩,fun x c hx=>?_,fC,fun x c hx=>I2.freeC x c (hcl1 x c hx),fun p hp=>absurd (show p∈([]:List (Addr×Obj)) from hp) (by simp),I2.hok.kept old,?_⟩
    · obtain ⟨v,o,ho,hd⟩:=I2.cell x c (hcl1 x c hx)
      exact ⟨v,o,old c o ho,hd⟩
    · exact capLen
  have recap:∀ {pl pl':List (Addr×Obj)} {σ':St} {H':Hp} {s':Shared},Inv X' (pl++pl') σ' H' s'→Inv X' pl (capσ tg.length ci σ) H' s':=fun {pl pl' σ' H' s'} J=>by
    obtain ⟨m,hn,_⟩:=J.loc
    have u:Un (frs X.stack) fp H2 H' s2.heap s'.heap:=J.base
    exact ⟨J.ok,J.os,J.bare,J.base,⟨m,hn,capLook _ _ fun x c o hx e=>u.any e (I2.freeC x c hx) fun hb=>(f2 c hb).2.2.2.2.1 x c hx rfl⟩,J.cell,J.free,J.freeC,
      fun p hp=>(List.mem_append.mp hp).elim (fun z=>J.pin p (List.mem_append_left _ z)) (fun z=>J.pin p (List.mem_append_right _ (List.mem_append_left _ z))),J.hok,capLen⟩
  have stat:∀ {H':Hp},(∀b∈fp,H' b=none)→∀b∈fp,FpOk X' [] H' b:=fun hn b hb=>by
    obtain ⟨o,eo,_⟩:=T.obj _ _ st2 b hb
    have lt:s2.heap.objs.size≥Nat.succ b:=Heap.lt_size eo
    exact ⟨hn b hb,by show @Ne Nat b C;omega,ok'.exfs b hb,.inl hb,(ok'.exf b hb).2,fun p hp=>absurd (show p∈([]:List (Addr×Obj)) from hp) (by simp)⟩
  have hDfp:D∉fp:=fun hb=>by obtain ⟨o,eo,_⟩:=T.obj _ _ st2 D hb;have lt:s2.heap.objs.size≥Nat.succ D:=Heap.lt_size eo;omega
  have hDcell:∀x c,X'.env.cells.lookup x=some c→c≠D:=fun x c hx=>by
    obtain ⟨v,o,ho,hd⟩:=I2.cell x c (hcl1 x c hx)
    have lt:s2.heap.objs.size≥Nat.succ c:=Heap.lt_size ho
    intro z;have z':@Eq Nat c D:=z;omega
  have hDfs:D∉X'.fs:=fun hb=>by
    have:D∈X.env.locals::X.fs:=I2.stkSub D hb
    rcases List.mem_cons.mp this with z|z
    · have l1:s2.heap.objs.size≥Nat.succ X.env.locals:=I2.lt
      have z':@Eq Nat D X.env.locals:=z
      omega
    · exact I2.nofs (show s2.heap.objs.size≤D by omega) z
  have fin:∀ {pl:List (Addr×Obj)} {σ':St} {H':Hp} {s':Shared} {vs:List V} {us:List Value} {k:Nat},Inv X' pl σ' H' s'→H' D=none→s'.heap.get? D=some { cls:=.type "list",data:=.seq us.toArray k }→Vals vs us→vs.length≤sizeLine→
      (∀D',H' D'=none→Q (.ref D') (upd H' D' (.lst vs)))→
      ∃D' vs H',Value.ref D = .ref D'∧(Except.ok Flow.next:Result) = .ok .next∧Inv X pins σ (upd H' D' (.lst vs)) s'∧H' D'=none∧Gone X pins (upd H' D' (.lst vs)) s' C∧∀D',H' D'=none→Q (.ref D') (upd H' D' (.lst vs)):=by
    intro pl σ' H' s' vs us k J f e r z q
    have u:Un (frs X.stack) fp H2 H' s2.heap s'.heap:=J.base
    have lt:∀ {b:Addr} {o:Obj},s2.heap.get? b=some o→b≠D:=fun {b o} eb zb=>by
      have l1:s2.heap.objs.size≥Nat.succ b:=Heap.lt_size eb
      have l2:@Eq Nat b D:=zb
      omega
    have u2:Un (frs X.stack) fp H2 (upd H' D (.lst vs)) s2.heap s'.heap :=
      ⟨u.keep,u.slot,fun b o eb n hx=>by rw [yaf (lt eb)];exact u.free b o eb n hx,u.there,
       fun b xs eb=>by rw [yaf (yae eb fD)];exact u.tups b xs eb,fun b o uu eb=>by rw [yaf (yae eb fD)];exact u.frzs b o uu eb,fun b ps eb=>by rw [yaf (yae eb fD)];exact u.tbls b ps eb⟩
    have hok2:HOk X.prog X.w (upd H' D (.lst vs)) s'.heap:=fun b o eb=>by
      by_cases hb:b=D
      · subst hb
        rw [yac] at eb;cases eb
        exact ⟨z,us,k,r,e⟩
      · rw [yaf hb] at eb
        refine (J.hok b o eb).stay (fun _ _ _ q=>q) (fun c hc=>?_) fun c xs hc=>?_
        · rw [yaf (fun zz=>by rw [zz,f] at hc;cases hc)];exact hc
        · rw [yaf (fun zz=>by rw [zz,f] at hc;cases hc)];exact hc
    refine ⟨D,vs,H',rfl,rfl,I2.call' (ch:=fp) J.os u2 hok2 J.bare ?_,f,⟨?_,?_,?_,?_,?_,?_,?_⟩,q⟩
    · intro b hb
      obtain ⟨_,a2,_,a4,a5,a6⟩:=f2 b hb
      exact ⟨a4,a2,a5,a6⟩
    · obtain ⟨m,hn,_⟩:=J.loc;exact ⟨m,hn⟩
    · rw [yaf (Ne.symm hDC)];exact J.free
    · have l1:s2.heap.objs.size≥Nat.succ X.env.locals:=I2.lt
      intro zz;have zz':@Eq Nat C X.env.locals:=zz;omega
    · have l1:X.s₀.heap.objs.size≤s2.heap.objs.size:=I2.sz
      show X.s₀.heap.objs.size≤C;omega
    · intro x c hx zz
      obtain ⟨v,o,ho,hd⟩:=I2.cell x c hx
      have l1:s2.heap.objs.size≥Nat.succ c:=Heap.lt_size ho
      have zz':@Eq Nat c C:=zz
      omega
    · intro p hp zz
      have l1:s2.heap.objs.size≥Nat.succ p.1:=Heap.lt_size (I2.pin p hp).1
      have zz':@Eq Nat p.1 C:=zz
      omega
    · exact I2.nofs (show s2.heap.objs.size≤C by omega)
  have loop:∀tk,codeAny (model X.prog X.w) X.A (.compLoop (.ListComp elt [⟨target,iter,ifs,0⟩] scope pos) 0 (.ref it) (.ref D) (compEnvC scope cl C X.env))
      (fun r s'=>∃D' vs H',Value.ref D = .ref D'∧r = .ok .next∧Inv X pins σ (upd H' D' (.lst vs)) s'∧H' D'=none∧Gone X pins (upd H' D' (.lst vs)) s' C∧∀D',H' D'=none→Q (.ref D') (upd H' D' (.lst vs))) { s2 with heap:=h₁,toks:=tk }:=by
    intro tk
    refine zdr (fun n s'=>∃i vs us k H',Inv X' [] (capσ tg.length ci σ) H' s'∧tn i s'.heap∧(∀b∈fp,H' b=none)∧H' D=none∧s'.heap.get? D=some { cls:=.type "list",data:=.seq us.toArray k }∧Vals vs us∧vs.length≤sizeLine∧W i n vs H') ?_ m0
      ⟨0,[],[],0,H2,I' tk,T.keep _ _ _ st2 (fun b hb o e=>old b o e),fun b hb=>(f2 b hb).1,fD,hD1,.nil,Nat.zero_le _,w0⟩
    rintro n s3 ⟨i,vs,us,k,H3,I3,st3,fr3,fD3,hD3,rv3,z3,w3⟩
    let pD:List (Addr×Obj):=[(D,{ cls:=.type "list",data:=.seq us.toArray k })]
    have pinD:∀ {σ':St} {H':Hp} {s':Shared},Inv X' [] σ' H' s'→H' D=none→s'.heap.get? D=some { cls:=.type "list",data:=.seq us.toArray k }→Inv X' pD σ' H' s':=fun {σ' H' s'} J f e =>
      J.pins_of fun p hp=>by
        have:p=(D,{ cls:=.type "list",data:=.seq us.toArray k }):=by simpa [pD] using hp
        subst this
        exact ⟨e,f,hDC,hDfs,fun v z=>by cases z⟩
    have statD:∀ {H':Hp},(∀b∈fp,H' b=none)→∀b∈fp,FpOk X' pD H' b:=fun hn b hb=>by
      obtain ⟨a1,a2,a3,a4,a5,_⟩:=stat hn b hb
      refine ⟨a1,a2,a3,a4,a5,fun p hp=>?_⟩
      have:p=(D,{ cls:=.type "list",data:=.seq us.toArray k }):=by
        have hp':p∈([]:List (Addr×Obj))++pD:=hp
        simpa [pD] using hp'
      subst this
      exact fun z=>hDfp (by rw [show D=b from z];exact hb)
    rcases turn i n vs H3 w3 with ⟨stop,qn⟩ | ⟨go,zl,N,hN,step⟩
    · refine thn (T.done X' rfl rfl rfl hcalm i pD s3 _ H3 _ (pinD I3 fD3 hD3) (statD fr3) st3 stop) fun r s4 ⟨hr,I4⟩=>?_
      subst hr
      have eD:s4.heap.get? D=some { cls:=.type "list",data:=.seq us.toArray k }:=(I4.pin (D,_) (by simp [pD])).1
      exact fin I4 fD3 eD rv3 z3 qn
    · refine thn (T.item X' rfl rfl rfl hcalm i pD s3 _ H3 _ (pinD I3 fD3 hD3) (statD fr3) st3 go) fun r s4 ⟨u,hr,h4⟩=>?_
      subst hr
      refine thn h4 fun _ s5 ⟨x,H5,I5,r5,y5,st5,fr5⟩=>?_
      have I5':=I5.pinned (statD fr5) (T.obj _ _ st5)
      refine thn (hg C fp s2 H2 _ s5 _ H5 x u _ I5' r5 (step x H5 y5)) fun _ s6 ⟨σ6,H6,I6,q6⟩=>?_
      refine thn (ht C fp s2 H2 _ s6 σ6 H6 _ I6 q6) fun b s7 ⟨H7,I7,q7⟩=>?_
      have again:∀ {s8:Shared} {H8:Hp},Inv X' (pD++ybT fp s5.heap) σ6 H8 s8→Inv X' pD (capσ tg.length ci σ) H8 s8∧tn (i+1) s8.heap∧(∀b∈fp,H8 b=none)∧H8 D=none∧s8.heap.get? D=some { cls:=.type "list",data:=.seq us.toArray k }:=fun {s8 H8} I8=>by
        have e8:=I8.pin (D,_) (List.mem_append_right _ (List.mem_append_left _ (by simp [pD] <;> rfl)))
        refine ⟨?_,T.keep _ _ _ st5 fun b hb o e=>(I8.pin (b,o) (List.mem_append_right _ (List.mem_append_right _ (za6 hb e)))).1,fun b hb=>?_,e8.2.1,e8.1⟩
        · exact recap I8
        · obtain ⟨o,e,d⟩:=T.obj _ _ st5 b hb
          exact (I8.pin (b,o) (List.mem_append_right _ (List.mem_append_right _ (za6 hb e)))).2.1
      cases b with
      | false =>
        obtain ⟨m',hm,w7⟩:=hN _ _ q7
        obtain ⟨J,t7,f7,d7,e7⟩:=again I7
        exact ⟨m',hm,i+1,vs,us,k,H7,J.pins_of (fun p hp=>nomatch hp),t7,f7,d7,e7,rv3,z3,w7⟩
      | true =>
        simp only [if_true] at q7 ⊢
        refine thn (he C fp s2 H2 _ s7 σ6 H7 _ I7 q7) fun y s8 ⟨yv,H8,I8,r8,q8⟩=>?_
        obtain ⟨m',hm,w8⟩:=hN _ _ q8
        obtain ⟨J,t8,f8,d8,e8⟩:=again I8
        refine call_meets F.slot_list_append ⟨_,e8,rfl⟩ F.entry_list_append (F.args_list_append_2 _ _) (PySem.list_append D us.toArray k y (by rw [List.size_toArray,←rv3.length];exact z3)) ⟨e8,?_⟩
        have q:=PySem.IsL.update e8 (·.push y)
        have J0:Inv X' [] (capσ tg.length ci σ) H8 s8:=J.pins_of (fun p hp=>nomatch hp)
        refine ⟨m',hm,i+1,vs++[yv],us++[y],_,H8,J0.turned (it:=D) (t':=s8.toks) (fun b o hb hu=>(Heap.get?_update_other s8.heap _ (Ne.symm hb)).trans hu) d8 hDC (.inr (by show s2.heap.objs.size≤D;omega)) hDcell (fun p hp=>absurd (show p∈([]:List (Addr×Obj)) from hp) (by simp)),?_,f8,d8,by simpa using q,rv3.append (.cons r8 .nil),by simp;omega,w8⟩
        exact T.keep _ _ _ t8 fun b hb o hu=>(Heap.get?_update_other s8.heap _ (fun z=>hDfp (by rw [z];exact hb))).trans hu
  exact codeAny_compStart_list (loop _) (T.self X.A 0 _ _ _ (T.keep _ _ _ st2 (fun b hb o e=>old b o e)) (loop _))
theorem Gone.turned {pins:List (Addr×Obj)} {σ:St} {H:Hp} {s:Shared} {C:Addr} {h':Heap} (G:Gone X pins H s C) (I:Inv X pins σ H s) (hs:Heap.SameBut C s.heap h'):Inv X pins σ H { s with heap:=h' } :=
  I.turned (t':=s.toks) (fun b o hb e=>hs.extBut b o hb e) G.free G.ne (.inr G.ab) G.cells G.pins
theorem zbm {elt target iter:Expr} {ifs:List Expr} {scope:Scope} {pos:Pos} {tg cp:List Str} {ci:List Nat} {wi:TI} {g:TG} {ti:TT} {te:TE}
    (S:CSc X.N X.env.scope tg cp ci scope) (hcalm:X.calm=true) (hi:PI X target iter wi)
    (hg:∀cl C fp s H,PG (cxC X (tg++cp) scope cl C fp s H) target g) (ht:∀cl C fp s H,PIfs (cxC X (tg++cp) scope cl C fp s H) ifs ti) (he:∀cl C fp s H,PE (cxC X (tg++cp) scope cl C fp s H) elt te)
    (hs:∀x,foldedSetIterable iter X.env x=pure x:=by intro _;rfl):PE X (.ListComp elt [⟨target,iter,ifs,0⟩] scope pos) (zft wi tg.length ci g ti te):=by
  intro pins s σ H Q I h
  obtain ⟨cl,hclos,h1,h2⟩:=ya8 (scope:=scope) (env:=X.env) fun x hx hf=>I.ok.has x.1 (S.free x hx hf)
  rw [eval_ListComp]
  refine wpAny_comprehension_free (use:=none) rfl hs hclos S.kind S.loc (thn (ydK S hcalm hi h1 h2 (hg cl) (ht cl) (he cl) I h) fun x s1 q1=>thn q1 fun it s2 q2=>thn q2 fun acc s3 q3=>thn q3 fun cenv s4 q4=>codeAny_mono q4 fun r s' q=>?_)
  obtain ⟨D,vs,H',e1,e2,I',f,G,q⟩:=q
  subst e1 e2
  obtain ⟨m,hn⟩:=G.ns
  exact ⟨m,hn,fun h' hsb=>⟨.ref D,_,G.turned I' hsb,rfl,q D f⟩⟩
theorem ybB {i:Nat} {y:Str} {py:Pos} {elt target iter:Expr} {ifs:List Expr} {scope:Scope} {pos spos:Pos} {tg cp:List Str} {ci:List Nat} {wi:TI} {g:TG} {ti:TT} {te:TE}
    (hN:X.N.Nodup) (hi':X.N[i]?=some y) (hy:Loc X.env.scope y)
    (S:CSc X.N X.env.scope tg cp ci scope) (hcalm:X.calm=true) (hi:PI X target iter wi)
    (hg:∀cl C fp s H,PG (cxC X (tg++cp) scope cl C fp s H) target g) (ht:∀cl C fp s H,PIfs (cxC X (tg++cp) scope cl C fp s H) ifs ti) (he:∀cl C fp s H,PE (cxC X (tg++cp) scope cl C fp s H) elt te)
    (hsw:swapsWith (.ListComp elt [⟨target,iter,ifs,0⟩] scope pos) (some (.Name y py)) spos.line X.env=pure true:=by rfl)
    (hs:∀x,foldedSetIterable iter X.env x=pure x:=by intro _;rfl) (hf:X.fn y=true∨X.env.scope.names.lookup y=some .local:=by first|exact .inl rfl|exact .inr rfl|assumption) :
    PS X (.Assign [.Name y py] (.ListComp elt [⟨target,iter,ifs,0⟩] scope pos) spos) (tAsg (zft wi tg.length ci g ti te) (zas i)):=by
  intro pins s σ H D I h
  obtain ⟨cl,hclos,h1,h2⟩:=ya8 (scope:=scope) (env:=X.env) fun x hx hf=>I.ok.has x.1 (S.free x hx hf)
  rw [exec_Assign_Name_used _ _ _ _ hsw]
  refine wpAny_bind (wpAny_standAt (wpAny_bind ?_))
  show wpAny _ X.A (do let _ ←comprehension (.ListComp elt [⟨target,iter,ifs,0⟩] scope pos) scope X.env _ (newList []) false (eval iter X.env) (some (assign (.Name y py) X.env))) _ _ s
  refine wpAny_bind (wpAny_mono (wpAny_comprehension_free (use:=some (assign (.Name y py) X.env)) (Q:=fun _ s'=>SP X pins D .next s') rfl hs hclos S.kind S.loc
    (thn (ydK S hcalm hi h1 h2 (hg cl) (ht cl) (he cl) I h) fun x s1 q1=>thn q1 fun it s2 q2=>thn q2 fun acc s3 q3=>thn q3 fun cenv s4 q4=>codeAny_mono q4 fun r s' q=>?_)) (fun _ s' hq=>wpAny_pure (wpAny_pure hq)) fun _ _ e=>e)
  obtain ⟨D',vs,H',e1,e2,I',f,G,q⟩:=q
  subst e1 e2
  show wpAny _ X.A (assign (.Name y py) X.env (.ref D')) _ _ _
  obtain ⟨m,o,es,ep,ho,hd,hk⟩:=G.ns
  have pin:Inv X ((cenv.locals,o)::pins) σ (upd H' D' (.lst vs)) s':=I'.pins_of fun p hp=>by
    rcases List.mem_cons.mp hp with z|z
    · subst z
      exact ⟨ho,G.free,G.ne,G.nofs,fun v z=>by rw [hd] at z;cases z⟩
    · exact I'.pin p (List.mem_append_right _ z)
  refine wpAny_assign_Name (ya3 (v:=V.ref D') pin hN hi' hy (show RelV (.ref D') (.ref D') from rfl) (fun s2 I2=>?_) hf)
  have I3:Inv X pins (σ.set i (some (.ref D'))) (upd H' D' (.lst vs)) s2:=I2.pins_of fun p hp=>I2.pin p (List.mem_append_right _ (List.mem_cons_of_mem _ hp))
  have e2:=I2.pin (cenv.locals,o) (List.mem_append_right _ List.mem_cons_self)
  have G2:Gone X pins (upd H' D' (.lst vs)) s2 cenv.locals:=⟨⟨m,o,es,ep,e2.1,hd,hk⟩,G.free,G.ne,G.ab,G.cells,G.pins,G.nofs⟩
  exact ⟨m,⟨o,es,ep,e2.1,hd,hk⟩,fun h' hsb=>⟨_,_,G2.turned I3 hsb,q D' f⟩⟩
end
end L2
end
section
-- text: ExtB
set_option Elab.async false
set_option linter.all false
set_option maxRecDepth 100000
set_option maxHeartbeats 4000000
namespace L2
open PySem PySem.Spec PyProof.Rows
structure zfu (P:Program) (w:World) (A:Around) (a:Addr) (dep:List Addr) (ok:Nat→Heap→Prop) (val:Nat→Option Value):Prop where
  mem:a∈dep
  obj:∀k h,ok k h→∃o,h.get? a=some o∧(∀v,o.data≠.cell v)∧o.cls≠.type "zip"∧o.cls≠.type "enumerate"∧o.cls≠.type "tuple"
  keep:∀k h h',ok k h→(∀b∈dep,∀o,h.get? b=some o→h'.get? b=some o)→ok k h'
  item:∀k x (s:Shared) (Q:Value→Shared→Prop) (E:Value→Shared→Prop),ok k s.heap→val k=some x→(∀h',ok (k+1) h'→Heap.SameBut a s.heap h'→Q x { s with heap:=h' })→
    wpAny (model P w) A (Builtin.SmallTypes.nextOf (.ref a)) Q E s
  stop:∀k (s:Shared) (Q:Value→Shared→Prop) (E:Value→Shared→Prop),ok k s.heap→val k=none→
    (∀h' e,Heap.ExtBut a s.heap h'→(∃o,h'.get? e=some o∧o.cls = .type "StopIteration")→E (.ref e) { s with heap:=h' })→wpAny (model P w) A (Builtin.SmallTypes.nextOf (.ref a)) Q E s
section
variable {P:Program} {w:World} {A:Around}
theorem yfp {a l:Addr} {xs:Array Value} (hh:A.handled=none) (ne:l≠a):zfu P w A a [a,l] (fun k h=>h.IsListIter a l k∧h.IsList l xs) (fun k=>xs[k]?) where
  mem:=List.mem_cons_self
  obj:=fun k h z=>by
    obtain ⟨⟨o,e,c,d⟩,_⟩:=z
    exact ⟨o,e,fun v q=>(by rw [d] at q;cases q),(by rw [c];decide),(by rw [c];decide),(by rw [c];decide)⟩
  keep:=fun k h h' z q=>⟨z.1.at fun o e=>q a (by simp) o e,z.2.at fun o e=>q l (by simp) o e⟩
  item:=fun k x s Q E z e q=>wpAny_nextOf_list_item z.1 z.2 e fun h' h1 h2=>q h' ⟨h1,z.2.extBut h2.extBut ne⟩ h2
  stop:=fun k s Q E z e q=>wpAny_nextOf_list_end hh z.1 z.2 e q
theorem zcq {h h':Heap} {a l:Addr} {k:Nat} (x:h.IsTupleIter a l k) (e:∀o,h.get? a=some o→h'.get? a=some o):h'.IsTupleIter a l k:=let ⟨o,ho,r⟩:=x;⟨o,e _ ho,r⟩
theorem zf2 {h h':Heap} {a:Addr} {xs:Array Value} (x:h.IsTuple a xs) (e:∀o,h.get? a=some o→h'.get? a=some o):h'.IsTuple a xs:=let ⟨o,ho,r⟩:=x;⟨o,e _ ho,r⟩
theorem zf4 {a l:Addr} {xs:Array Value} (hh:A.handled=none) (ne:l≠a):zfu P w A a [a,l] (fun k h=>h.IsTupleIter a l k∧h.IsTuple l xs) (fun k=>xs[k]?) where
  mem:=List.mem_cons_self
  obj:=fun k h z=>by
    obtain ⟨⟨o,e,c,d⟩,_⟩:=z
    exact ⟨o,e,fun v q=>(by rw [d] at q;cases q),(by rw [c];decide),(by rw [c];decide),(by rw [c];decide)⟩
  keep:=fun k h h' z q=>⟨zcq z.1 fun o e=>q a (by simp) o e,zf2 z.2 fun o e=>q l (by simp) o e⟩
  item:=fun k x s Q E z e q=>by
    obtain ⟨o,ho,hc,hd⟩:=id z.1
    obtain ⟨ol,hol,_,nl,hdl⟩:=id z.2
    unfold Builtin.SmallTypes.nextOf
    refine wpAny_bind (wpAny_callSpecial?_slot (name:=Str.ofString "__next__") z.1.typeIs F.slot_tuple_iterator_next (wpAny_call_entry F.slot_tuple_iterator_next z.1.typeIs F.entry_tuple_iterator_next ?_ (F.args_tuple_iterator_next_1 _)))
    show wpAny _ _ (field (.ref a) 0 >>= _) _ _ s;refine wpAny_bind (wpAny_field ho hd (x:=.ref l) rfl ?_)
    show wpAny _ _ (if (Value.ref l==Value.none)=true then _ else _) _ _ s;rw [if_neg (show ¬ ((Value.ref l==Value.none)=true) from Bool.false_ne_true)]
    show wpAny _ _ (field (.ref a) 1 >>= _) _ _ s;refine wpAny_bind (wpAny_field ho hd (x:=.int k 0) rfl ?_)
    show wpAny _ _ (seqItems? (.ref l) >>= _) _ _ s;refine wpAny_bind (wpAny_seqItems hol hdl ?_)
    simp only [Int.toNat_natCast,e]
    refine wpAny_bind (wpAny_setField ho hd (by simp) (wpAny_pure ⟨x,rfl,wpAny_pure (q _ ⟨?_,z.2.extBut (Heap.SameBut.update ..).extBut ne⟩ (Heap.SameBut.update ..))⟩))
    exact ⟨_,Heap.get?_update_self _ ho (Obj.isFreed_of_fields (Obj.data_mapFields hd _)),(Obj.cls_mapFields ..).trans hc,by rw [Obj.data_mapFields hd];simp [rawInt]⟩
  stop:=fun k s Q E z e q=>by
    obtain ⟨o,ho,hc,hd⟩:=id z.1
    obtain ⟨ol,hol,_,nl,hdl⟩:=id z.2
    unfold Builtin.SmallTypes.nextOf
    refine wpAny_bind (wpAny_callSpecial?_slot (name:=Str.ofString "__next__") z.1.typeIs F.slot_tuple_iterator_next (wpAny_call_entry F.slot_tuple_iterator_next z.1.typeIs F.entry_tuple_iterator_next ?_ (F.args_tuple_iterator_next_1 _)))
    show wpAny _ _ (field (.ref a) 0 >>= _) _ _ s;refine wpAny_bind (wpAny_field ho hd (x:=.ref l) rfl ?_)
    show wpAny _ _ (if (Value.ref l==Value.none)=true then _ else _) _ _ s;rw [if_neg (show ¬ ((Value.ref l==Value.none)=true) from Bool.false_ne_true)]
    show wpAny _ _ (field (.ref a) 1 >>= _) _ _ s;refine wpAny_bind (wpAny_field ho hd (x:=.int k 0) rfl ?_)
    show wpAny _ _ (seqItems? (.ref l) >>= _) _ _ s;refine wpAny_bind (wpAny_seqItems hol hdl ?_)
    simp only [Int.toNat_natCast,e]
    refine wpAny_bind (wpAny_rule (wpAny_bind (wpAny_setField ho hd (by simp) ?_)))
    show wpAny _ _ (newExc (.type "StopIteration") [] >>= _) _ _ _;refine wpAny_bind ?_
    simp only [newExc,newTuple]
    refine wpAny_bind (wpAny_newObj_type ?_ (by size_fits))
    refine wpAny_bind (m:=firstArgMember _ _) (wpAny_of_eq (a:=Value.none) (by first|rfl|(simp only [firstArgMember];rfl)) (wpAny_newObj_type ?_ (by size_fits)))
    simp only [raiseNew]
    refine wpAny_bind (wpAny_handled ?_)
    first|rw [show A.in1.handled=none from hh]|rw [hh]
    exact wpAny_bind (wpAny_pure (wpAny_throw (q _ _ (((Heap.SameBut.update ..).extBut.push _).push _) ⟨_,Heap.get?_push_size _ rfl,rfl⟩)))
end
structure ZAp (z TI TO:Addr) (d1 d2:List Addr) (i1 i2:Addr):Prop where
  a1:TI≠z
  a2:TO≠z
  a3:TI≠TO
  b1:z∉d1
  b2:z∉d2
  b3:TO∉d1
  b4:TO∉d2
  b5:TI≠i1
  b6:TI≠i2
  c1:i1∉d2
  c2:i2∉d1
section
variable {P:Program} {w:World} {A:Around} {s:Shared} {z TI TO i1 i2:Addr} {d1 d2:List Addr} {ok1 ok2:Nat→Heap→Prop} {v1 v2:Nat→Option Value}
end
end L2
end
section
-- text: ExtC
set_option Elab.async false
set_option linter.all false
set_option maxRecDepth 100000
set_option maxHeartbeats 4000000
namespace L2
open PySem PySem.Spec PyProof.Rows
noncomputable def SqB (K:PySem.W.Frag):Bool→Hp→Addr→List V→Prop
  | true=>fun H a xs=>SqT K H a xs
  | false=>fun H a xs=>SqL K H a xs
noncomputable def zcm:Bool→Heap→Addr→Array Value→Prop
  | true=>fun h a xs=>h.IsTuple a xs
  | false=>fun h a xs=>h.IsList a xs
noncomputable def ycI:Bool→Heap→Addr→Addr→Nat→Prop
  | true=>fun h a l k=>h.IsTupleIter a l k
  | false=>fun h a l k=>h.IsListIter a l k
noncomputable def ycF (b:Bool) (l:Addr):Obj:={ cls:=.type (if b then "tuple_iterator" else "list_iterator"),data:=.fields #[.ref l,.int 0 0] }
theorem yed (b:Bool) (h:Heap) (l:Addr) (a:Addr) (e:h.get? a=some (ycF b l)):ycI b h a l 0:=by cases b <;> exact ⟨_,e,rfl,rfl⟩
theorem zdJ {b:Bool} {h h':Heap} {a l:Addr} {k:Nat} (x:ycI b h a l k) (e:∀o,h.get? a=some o→h'.get? a=some o):ycI b h' a l k:=by
  cases b
  · exact Heap.IsListIter.at x e
  · exact zcq x e
theorem subB {P:Program} {w:World} {A:Around} (b:Bool) {a l:Addr} {xs:Array Value} (hh:A.handled=none) (ne:l≠a):zfu P w A a [a,l] (fun k h=>ycI b h a l k∧zcm b h l xs) (fun k=>xs[k]?):=by
  cases b
  · exact yfp hh ne
  · exact zf4 hh ne
theorem zdg {b:Bool} {h:Heap} {a l:Addr} {k:Nat} (x:ycI b h a l k):∃o,h.get? a=some o∧(∀v,o.data≠.cell v)∧(o.cls = .type "tuple_iterator"∨o.cls = .type "list_iterator"):=by
  cases b <;> obtain ⟨o,e,c,d⟩:=x
  · exact ⟨o,e,fun v q=>(by rw [d] at q;cases q),.inr c⟩
  · exact ⟨o,e,fun v q=>(by rw [d] at q;cases q),.inl c⟩
theorem zdP {P:Program} {w:World} {A:Around} {E:Value→Shared→Prop} {s:Shared} {b:Bool} {t:Addr} {items:Array Value} {Q:Value→Shared→Prop} (ht:zcm b s.heap t items)
    (hQ:Q (.ref s.heap.objs.size) { s with heap:=s.heap.push (ycF b t) }):wpAny (model P w) A (pyIter (.ref t)) Q E s:=by
  cases b
  · exact wpAny_pyIter_list ht hQ
  · exact wpAny_pyIter_tuple ht hQ
section
variable {X:Cx} {pins:List (Addr×Obj)} {σ:St} {H:Hp} {s:Shared}
theorem Inv.seqB {b:Bool} {a:Addr} {xs:List V} (I:Inv X pins σ H s) (h:SqB X.K b H a xs):∃its:List Value,Vals xs its∧zcm b s.heap a its.toArray∧xs.length≤sizeLine:=by
  cases b
  · obtain ⟨its,r,p,z⟩:=I.list h;exact ⟨its,r,p.isList,z⟩
  · obtain ⟨its,r,p,z⟩:=I.tuple h;exact ⟨its,r,p,z⟩
theorem Inv.seqB_inj {b:Bool} {a:Addr} {xs ys:List V} (I:Inv X pins σ H s) (h:SqB X.K b H a xs) (h':SqB X.K b H a ys):xs=ys:=by
  cases b
  · exact I.list_inj h h'
  · exact I.tuple_inj h h'
theorem Inv.turnedT {fp:List Addr} {h':Heap} {t':Nat} {T:Addr} {xs:List V} {its:Array Value} (I:Inv X pins σ H s) (hf:∀b∈fp,FpOk X pins H b) (k:∀b o,b∉fp→s.heap.get? b=some o→h'.get? b=some o)
    (hp:s.heap.objs.size≤T) (z:xs.length≤sizeLine) (r:Vals xs its.toList) (new:h'.IsTuple T its):Inv X pins σ (upd H T (.tup xs)) { s with heap:=h',toks:=t' }:=by
  have fT:H T=none:=I.hok.fresh hp
  have nT:∀b o,s.heap.get? b=some o→b≠T:=fun b o e q=>by
    have l1:s.heap.objs.size≥Nat.succ b:=Heap.lt_size e
    have l2:@Eq Nat b T:=q
    omega
  have nfp:∀b u,H b=some u→b∉fp:=fun b u e q=>by rw [(hf b q).1] at e;cases e
  refine I.step (g':=s.gens) (d':=s.drawn) (ch:=fp) (fun b hb=>⟨(hf b hb).2.2.2.1,(hf b hb).2.1,(hf b hb).2.2.2.2.1,(hf b hb).2.2.2.2.2⟩) (fun b o _ _ hc e _=>k b o hc e) (fun b o _ _ hc e _=>⟨o.slots,k b o hc e⟩)
    (fun b o _ e n=>by rw [yaf (nT b o e)];exact n) (fun b o hc e=>⟨o,k b o hc e⟩) (fun b ys e=>by rw [yaf (yae e fT)];exact e) (fun b o u e=>by rw [yaf (yae e fT)];exact e)
    (fun b ps e=>⟨#[],by rw [yaf (yae e fT),e];simp⟩) (fun m hm=>?_) (fun b u e=>?_) I.bare
  · obtain ⟨o,es,ep,ho,q⟩:=hm
    exact ⟨o,es,ep,k _ o (fun hb=>(hf _ hb).2.1 rfl) ho,q⟩
  · by_cases hb:b=T
    · subst hb
      rw [yac] at e;cases e
      have q:IsTup h' b its:=new
      exact ⟨z,its.toList,r,by simpa using q⟩
    · rw [yaf hb] at e
      refine (I.hok b u e).stay (fun c v hc q=>k c v ?_ q) (fun c q=>?_) fun c ys q=>?_
      · rcases hc with hc|hc
        · rw [hc];exact nfp b u e
        · exact nfp c _ hc
      · rw [yaf (yae q fT)];exact q
      · rw [yaf (yae q fT)];exact q
theorem Inv.turnedL {fp:List Addr} {h':Heap} {t':Nat} (I:Inv X pins σ H s) (hf:∀b∈fp,FpOk X pins H b) (k:∀b o,b∉fp→s.heap.get? b=some o→h'.get? b=some o):Inv X pins σ H { s with heap:=h',toks:=t' }:=by
  have nfp:∀b u,H b=some u→b∉fp:=fun b u e q=>by rw [(hf b q).1] at e;cases e
  refine I.step (g':=s.gens) (d':=s.drawn) (ch:=fp) (fun b hb=>⟨(hf b hb).2.2.2.1,(hf b hb).2.1,(hf b hb).2.2.2.2.1,(hf b hb).2.2.2.2.2⟩) (fun b o _ _ hc e _=>k b o hc e) (fun b o _ _ hc e _=>⟨o.slots,k b o hc e⟩)
    (fun b o _ e n=>n) (fun b o hc e=>⟨o,k b o hc e⟩) (fun b ys e=>e) (fun b o u e=>e) (fun b ps e=>⟨#[],by rw [e];simp⟩) (fun m hm=>?_) (fun b u e=>?_) I.bare
  · obtain ⟨o,es,ep,ho,q⟩:=hm
    exact ⟨o,es,ep,k _ o (fun hb=>(hf _ hb).2.1 rfl) ho,q⟩
  · refine (I.hok b u e).stay (fun c v hc q=>k c v ?_ q) (fun c q=>q) fun c ys q=>q
    rcases hc with hc|hc
    · rw [hc];exact nfp b u e
    · exact nfp c _ hc
end
structure ZSt (b1 b2:Bool) (z TI TO i1 i2 l1 l2:Addr) (k:Nat) (h:Heap):Prop where
  zip:IsZip h z TI TO .none
  ti:IsPair h TI (.ref i1) (.ref i2)
  to:∃a b,IsPair h TO a b
  it1:ycI b1 h i1 l1 k
  it2:ycI b2 h i2 l2 k
theorem yfK {h:Heap} {a b:Addr} {o u:Obj} {x y:String} (e:h.get? a=some o) (e':h.get? b=some u) (ca:o.cls = .type x) (cb:u.cls = .type y) (n:x≠y:=by decide):a≠b:=fun q=>by
  subst q;rw [e] at e';cases e';rw [ca] at cb;injection cb with cb;exact n cb
theorem Inv.sq_ne {X:Cx} {pins:List (Addr×Obj)} {σ:St} {H:Hp} {s:Shared} {b:Bool} {l c:Addr} {xs:List V} (I:Inv X pins σ H s) (h:SqB X.K b H l xs) (f:FpOk X pins H c):l≠c:=by
  have key:(∃u,H l=some u)∨∃o,X.K.lookup l=some o:=by
    cases b
    · rcases h with (h | ⟨o,h⟩) | ⟨o,_,_,h,_⟩
      · exact .inl ⟨_,h⟩
      · exact .inl ⟨_,h⟩
      · exact .inr ⟨o,h⟩
    · rcases h with (h | ⟨o,h⟩) | ⟨o,_,_,h,_⟩
      · exact .inl ⟨_,h⟩
      · exact .inl ⟨_,h⟩
      · exact .inr ⟨o,h⟩
  intro q
  subst q
  rcases key with ⟨u,e⟩ | ⟨o,e⟩
  · rw [f.1] at e;cases e
  · have eb:=I.ok.mod.kin l o e
    rcases f.2.2.2.1 with z|z
    · exact I.ok.noex l o eb z
    · have l1:X.base.objs.size≥Nat.succ l:=Heap.lt_size eb
      have l2:X.base.objs.size≤X.s₀.heap.objs.size:=I.ok.bsz
      have l3:X.s₀.heap.objs.size≤l:=z
      omega
end L2
end
section
-- text: ExtD
set_option Elab.async false
set_option linter.all false
set_option maxRecDepth 100000
set_option maxHeartbeats 4000000
namespace L2
open PySem PySem.Spec PyProof.Rows
section
variable {X:Cx}
end
end L2
end
section
-- text: ExtE
set_option Elab.async false
set_option linter.all false
set_option maxRecDepth 100000
set_option maxHeartbeats 4000000
namespace L2
open PySem PySem.Spec PyProof.Rows
noncomputable def Ite (K:PySem.W.Frag) (b:Bool) (l:Addr):It :=
  ⟨fun i H=>∃xs x,SqB K b H l xs∧xs[i]?=some x,
   fun i H v H'=>∃T x,v = .ref T∧H T=none∧H'=upd H T (.tup [.int i,x])∧(∀xs,SqB K b H l xs→xs[i]?=some x),
   fun i H=>∃xs,SqB K b H l xs∧xs.length≤i⟩
theorem zfN {P:Program} {w:World} {A:Around} (b:Bool) {a l:Addr} {xs:Array Value} (hh:A.handled=none) (ne:l≠a):Draws P w A a [a,l] xs.size (fun i v=>xs[i]?=some v) (fun k h=>ycI b h a l k∧zcm b h l xs) where
  live:=fun k h z=>let ⟨o,e,_⟩:=(subB (P:=P) (w:=w) b hh ne).obj k h z;⟨o,e⟩
  frame:=fun k h h' z q=>(subB (P:=P) (w:=w) b hh ne).keep k h h' z q
  item:=fun k s Q E hk z q=>by
    have hx:xs[k]?=some xs[k]:=Array.getElem?_eq_getElem hk
    exact (subB (P:=P) (w:=w) b hh ne).item k xs[k] s Q E z hx fun h' a1 a2=>q xs[k] h' s.toks hx a1 a2
  done:=fun s Q E z q=>(subB (P:=P) (w:=w) b hh ne).stop xs.size s Q E z (Array.getElem?_eq_none (Nat.le_refl _)) q
structure ESt (b:Bool) (e it l:Addr) (k:Nat) (h:Heap):Prop where
  en:∃old,IsEnum h e it k old
  it:ycI b h it l k
theorem zd9 {P:Program} {w:World} {K:PySem.W.Frag} {elts:List Expr} {kk:Nat} {tpos:Pos} (b:Bool) (e it l:Addr) :
    Turn P w K (.Tuple elts kk tpos) (Ite K b l) [e,it] e (ESt b e it l) where
  mem:=List.mem_cons_self
  obj:=fun k h S c hc=>by
    obtain ⟨old,he⟩:=S.en
    obtain ⟨o1,e1,d1,_⟩:=zdg S.it
    simp only [List.mem_cons,List.not_mem_nil,or_false] at hc
    rcases hc with rfl|rfl
    · exact ⟨_,he,fun v q=>by cases q⟩
    · exact ⟨o1,e1,d1⟩
  keep:=fun k h h' S q=>by
    obtain ⟨old,he⟩:=S.en
    exact ⟨⟨old,q e (by simp) _ he⟩,zdJ S.it fun o x=>q it (by simp) o x⟩
  item:=by
    intro X hP hw hK hc i pins s σ H E I hf S hg
    subst hP hw hK
    obtain ⟨xs,x,h1,ex⟩:=hg
    obtain ⟨us,r1,p1,z1⟩:=I.seqB h1
    obtain ⟨u,eu,ru⟩:=r1.get ex
    obtain ⟨old,he⟩:=S.en
    obtain ⟨o1,e1,_,c1⟩:=zdg S.it
    have hh:X.A.handled=none:=I.ok.hd hc
    have nl:∀c∈[e,it],l≠c:=fun c hc=>I.sq_ne h1 (hf c hc)
    have ei:e≠it:=by rcases c1 with c|c <;> exact yfK he e1 rfl c
    have ilt:i<us.toArray.size:=by
      have:=(List.getElem?_eq_some_iff.mp eu).1
      simpa using this
    refine wpAny_pyNext_enum_itemD (zfN b (A:=X.A.in1) hh (nl it (by simp))) he ⟨S.it,p1⟩ ilt ei (by simp only [List.mem_cons,List.not_mem_nil,or_false,not_or];exact ⟨ei,Ne.symm (nl e (by simp))⟩) fun y g tk hy a1 a2 a3 a4 a5=>?_
    have ey:y=u:=by
      have q1:us[i]?=some y:=by simpa using hy
      rw [eu] at q1;cases q1;rfl
    subst ey
    refine ⟨_,rfl,wpAny_letOwnedTupleGo_enum (s:={ s with heap:=g,toks:=tk+1 }) a1 fun g' he' t=>?_⟩
    have lt:∀ {c:Addr} {o:Obj},s.heap.get? c=some o→s.heap.objs.size≠c:=fun q=>Nat.ne_of_gt (Heap.lt_size q)
    have k':∀c o,c∉[e,it]→s.heap.get? c=some o→g'.get? c=some o:=fun c o hc q=>by
      simp only [List.mem_cons,List.not_mem_nil,or_false,not_or] at hc
      exact t.extBut c o hc.1 (a5 c o hc.1 hc.2 q)
    have hS':ESt b e it l (i+1) g':=⟨⟨_,by simpa using he'⟩,zdJ a2.1 fun o q=>t.extBut _ _ (Ne.symm ei) q⟩
    have fT:H s.heap.objs.size=none:=I.hok.fresh (Nat.le_refl _)
    have J:Inv X pins σ (upd H s.heap.objs.size (.tup [.int i,x])) { s with heap:=g',toks:=tk+1 } :=
      I.turnedT (t':=tk+1) (fp:=[e,it]) hf k' (Nat.le_refl _) (by show 2≤sizeLine;decide) (its:=#[.int i tk,y]) (.cons ⟨_,rfl⟩ (.cons ru .nil)) ⟨_,t.extBut _ _ (lt he) a3,rfl,_,rfl⟩
    refine ⟨.ref s.heap.objs.size,upd H s.heap.objs.size (.tup [.int i,x]),J,rfl,⟨_,x,rfl,fT,rfl,fun xs' hx'=>by rw [I.seqB_inj hx' h1];exact ex⟩,hS',fun c hc=>?_⟩
    have fobj:∃o,s.heap.get? c=some o:=by
      simp only [List.mem_cons,List.not_mem_nil,or_false] at hc
      rcases hc with rfl|rfl
      · exact ⟨_,he⟩
      · exact ⟨_,e1⟩
    obtain ⟨o,eo⟩:=fobj
    rw [yaf (Ne.symm (lt eo))]
    exact (hf c hc).1
  done:=by
    intro X hP hw hK hc i pins s σ H E I hf S hg
    subst hP hw hK
    obtain ⟨xs,h1,le⟩:=hg
    obtain ⟨us,r1,p1,z1⟩:=I.seqB h1
    obtain ⟨old,he⟩:=S.en
    have hh:X.A.handled=none:=I.ok.hd hc
    have nl:∀c∈[e,it],l≠c:=fun c hc=>I.sq_ne h1 (hf c hc)
    have D:=subB (P:=X.prog) (w:=X.w) b (A:=X.A.in1) (xs:=us.toArray) hh (nl it (by simp))
    have hT:s.TypeIs (.ref e) "enumerate":=⟨_,he,rfl⟩
    unfold pyNext
    refine wpAny_bind (wpAny_attempt (wpAny_callSpecial?_slot (name:=Str.ofString "__next__") hT F.slot_enumerate_next (wpAny_call_entry F.slot_enumerate_next hT F.entry_enumerate_next ?_ (F.args_enumerate_next_1 _))))
    show wpAny _ _ (field (.ref e) 2 >>= _) _ _ s;refine wpAny_bind (wpAny_field he rfl (x:=.ref it) rfl ?_)
    refine wpAny_bind (D.stop i _ _ _ ⟨S.it,p1⟩ (by have:=r1.length;simp;omega) fun g x t ⟨o,ho,hce⟩=>?_)
    refine wpAny_bind (wpAny_isInstance (T:="StopIteration") (b:=true) ⟨o,ho,hce⟩ isSubtype_stop (wpAny_pure ⟨rfl,?_⟩))
    refine I.turnedL (t':=s.toks) (fp:=[e,it]) hf fun c o hc q=>?_
    simp only [List.mem_cons,List.not_mem_nil,or_false,not_or] at hc
    exact t c o hc.2 q
  self:=fun A i s Q E S h=>let ⟨_,he⟩:=S.en;wpAny_pyIter_enum he h
theorem ydy (b:Bool) (l:Addr) (xs:Array Value) (n:Nat) (dct:Option Addr) (sl:Array (Option Value)) :
    Meets (Builtin.«enumerate.__new__» ⟨[.type "enumerate",.ref l],[]⟩) (fun _ R s=>s.heap.get? l=some { cls:=.type (if b then "tuple" else "list"),dict:=dct,data:=.seq xs n,slots:=sl }∧R (.ok (.ret (.ref (s.heap.push (ycF b l)).objs.size))) { s with heap:=(s.heap.push (ycF b l)).push { cls:=.type "enumerate",data:=.fields #[.none,.bool false,.ref s.heap.objs.size,rawInt 0,.none,.none] } }) :=
  .of_wp fun prog w A R s h=>by
    obtain ⟨hp,g,d,tk,os⟩:=s;obtain ⟨hl,h⟩:=h
    have hsub:=sub_enumerate
    have hL:zcm b (Shared.heap ⟨hp,g,d,tk,os⟩) l xs:=by cases b <;> exact ⟨_,hl,rfl,n,rfl⟩
    wp_walk using wpAny_loadPart' hl;(refine wpAny_stack_any fun st=>wpAny_pure ?_);split
    · rename_i c _ _ _ _ _;cases (c==Value.type "enumerate") <;> (wp_walk using wpAny_loadPart' hl,zdP hL;exact ⟨_,rfl,h⟩)
    · wp_walk using wpAny_loadPart' hl,zdP hL;exact ⟨_,rfl,h⟩
theorem ydo {b:Bool} {h:Heap} {l:Addr} {xs:Array Value} (x:zcm b h l xs):∃n dct sl,h.get? l=some { cls:=.type (if b then "tuple" else "list"),dict:=dct,data:=.seq xs n,slots:=sl }:=by
  cases b <;> obtain ⟨⟨c,dct,dt,sl⟩,e,hc,n,hd⟩:=x
  · replace hc:c = .type "list":=hc
    replace hd:dt = .seq xs n:=hd
    subst hc hd;exact ⟨n,dct,sl,e⟩
  · replace hc:c = .type "tuple":=hc
    replace hd:dt = .seq xs n:=hd
    subst hc hd;exact ⟨n,dct,sl,e⟩
section
variable {X:Cx}
noncomputable def zgf (K:PySem.W.Frag) (ta:TA):TI:=fun σ H R=>ta σ H fun vs H1=>∃b a,vs=[.ref a]∧(∃xs,SqB K b H1 a xs)∧R (Ite K b a) H1
theorem zfH {pins:List (Addr×Obj)} {σ:St} {H:Hp} {s:Shared} {R:It→Hp→Prop} {elts:List Expr} {kk:Nat} {tpos:Pos} {b:Bool} {l:Addr} {xs:List V} (I:Inv X pins σ H s) (h1:SqB X.K b H l xs) (q:R (Ite X.K b l) H) :
    wpAny (model X.prog X.w) X.A (call (.type "enumerate") [.ref l]) (fun v s1=>wpAny (model X.prog X.w) X.A (pyIter v) (PIE X pins σ (.Tuple elts kk tpos) R) X.xe s1) X.xe s:=by
  obtain ⟨us,r1,p1,z1⟩:=I.seqB h1
  obtain ⟨m,dct,sl,hl⟩:=ydo p1
  refine callType_new F.called_enumerate (by decide) (F.typeCall_enumerate_1 _) (F.newCall_enumerate_1 _) (fun obj=>F.args_object_init_2 obj _) F.entry_enumerate_new (ydy b l us.toArray m dct sl) ⟨hl,?_⟩
  generalize hn:s.heap.objs.size=n
  have s1:(s.heap.push (ycF b l)).objs.size=n+1:=by rw [Heap.size_push,hn]
  generalize hG:(s.heap.push (ycF b l)).push { cls:=.type "enumerate",data:=.fields #[.none,.bool false,.ref n,rawInt 0,.none,.none] }=G
  have old:∀c o,s.heap.get? c=some o→G.get? c=some o:=fun c o e=>hG ▸ Heap.get?_push_of_some _ (Heap.get?_push_of_some _ e)
  have ge:IsEnum G (n+1) n 0 .none:=by
    have e:G.get? (s.heap.push (ycF b l)).objs.size=some { cls:=.type "enumerate",data:=.fields #[.none,.bool false,.ref n,rawInt 0,.none,.none] }:=hG ▸ Heap.get?_push_size _ rfl
    rw [s1] at e;exact e
  have gi:G.get? n=some (ycF b l):=by
    have e:G.get? s.heap.objs.size=some (ycF b l):=hG ▸ Heap.get?_push_of_some _ (Heap.get?_push_size _ rfl)
    rw [hn] at e;exact e
  rw [s1]
  refine ⟨⟨_,ge,rfl⟩,wpAny_pyIter_enum ge ?_⟩
  have I1:Inv X pins σ H { s with heap:=G }:=I.kept (t':=s.toks) old
  refine ⟨n+1,[n+1,n],_,_,H,rfl,I1,zd9 b (n+1) n l,⟨⟨_,ge⟩,yed _ _ _ _ gi⟩,fun c hc=>?_,q⟩
  have le:s.heap.objs.size≤c:=by
    rw [hn]
    simp only [List.mem_cons,List.not_mem_nil,or_false] at hc
    show @LE.le Nat _ n c
    rcases hc with e|e <;> (have e':@Eq Nat c _:=e;omega)
  exact I.fpOk le (I.hok.fresh le)
theorem zcJ {a:Expr} {ta:TA} {p pos:Pos} {elts:List Expr} {kk:Nat} {tpos:Pos} (hg:Gl X "enumerate") (hm:X.mg "enumerate"=none) (ha:PA X [a] ta) (hs:starEach [a] X.env=[(false,eval a X.env)]:=by rfl) :
    PI X (.Tuple elts kk tpos) (.Call (.Name "enumerate" p) [a] [] pos) (zgf X.K ta):=by
  intro pins s σ H R I h
  refine Call_ (zbz I hg hm (u:=.type "enumerate") boot_enumerate (PyProof.Rows.callWith_type1 (thn (ha pos pins s σ H _ I h) fun us s1 ⟨vs,H1,I1,r1,q1⟩=>?_) hs rfl))
  obtain ⟨b,a,e,⟨xs,h1⟩,q⟩:=q1
  subst e
  cases r1 with
  | cons r rr =>
    cases rr
    cases r
    exact zfH I1 h1 q
end
structure Seqs (J:It) (n:Nat) (G:Hp→Prop) (y:Nat→V→Hp→Hp→Prop):Prop where
  go:∀i H,i<n→G H→J.go i H
  stop:∀H,G H→J.stop n H
  yld:∀i H x H',i<n→G H→J.yld i H x H'→y i x H H'
theorem zaN {K:PySem.W.Frag} {a:Addr} {xs:List V}:Seqs (Itl K a) xs.length (fun H=>SqL K H a xs) (fun i x H H'=>H'=H∧xs[i]?=some x) :=
  ⟨fun i H hi g=>⟨xs,xs[i],g,by simp [hi]⟩,fun H g=>⟨xs,g,Nat.le_refl _⟩,fun i H x H' hi g q=>⟨q.1,q.2 xs g⟩⟩
theorem ze6 {K:PySem.W.Frag} {a:Addr} {xs:List V}:Seqs (Itt K a) xs.length (fun H=>SqT K H a xs) (fun i x H H'=>H'=H∧xs[i]?=some x) :=
  ⟨fun i H hi g=>⟨xs,xs[i],g,by simp [hi]⟩,fun H g=>⟨xs,g,Nat.le_refl _⟩,fun i H x H' hi g q=>⟨q.1,q.2 xs g⟩⟩
theorem yau {lo:Int} {n:Nat}:Seqs (Itr lo n) n (fun _=>True) (fun i x H H'=>H'=H∧x = .int (lo+i)) :=
  ⟨fun i H hi _=>hi,fun H _=>Nat.le_refl _,fun i H x H' hi _ q=>q⟩
theorem ybH {K:PySem.W.Frag} {b:Bool} {l:Addr} {xs:List V}:Seqs (Ite K b l) xs.length (fun H=>SqB K b H l xs)
    (fun i x H H'=>∃T u,x = .ref T∧xs[i]?=some u∧H T=none∧H'=upd H T (.tup [.int i,u])) :=
  ⟨fun i H hi g=>⟨xs,xs[i],g,by simp [hi]⟩,fun H g=>⟨xs,g,Nat.le_refl _⟩,fun i H x H' hi g ⟨T,u,e1,e2,e3,e4⟩=>⟨T,u,e1,e4 xs g,e2,e3⟩⟩
theorem yaM {J:It} {n:Nat} {G:Hp→Prop} {y:Nat→V→Hp→Hp→Prop} (S:Seqs J n G y) {g:TG} {tb:TS} {D:Ends} {σ:St} {H:Hp} (Pv:Nat→St→Hp→Prop) (h0:Pv 0 σ H) (hl:∀i σ H,i≤n→Pv i σ H→G H)
    (hs:∀i x σ H H',i<n→Pv i σ H→y i x H H'→g x σ H' fun σ2 H2=>tb { D with nx:=Pv (i+1),ct:=Pv (i+1),bk:=D.nx } σ2 H2) (hd:∀σ H,Pv n σ H→D.nx σ H) :
    ∃W:Nat→Nat→St→Hp→Prop,(∃m,W 0 m σ H)∧∀i m σ H,W i m σ H→
      (J.stop i H∧D.nx σ H)∨(J.go i H∧∃N:St→Hp→Prop,(∀σ' H',N σ' H'→∃m',m'<m∧W (i+1) m' σ' H')∧∀x H',J.yld i H x H'→g x σ H' fun σ2 H2=>tb { D with nx:=N,ct:=N,bk:=D.nx } σ2 H2):=by
  refine ⟨fun i m σ H=>m=n-i∧i≤n∧Pv i σ H,⟨n,by simp,Nat.zero_le _,h0⟩,?_⟩
  rintro i m σ H ⟨rfl,hi,p⟩
  by_cases hlt:i<n
  · exact .inr ⟨S.go i H hlt (hl i σ H hi p),Pv (i+1),fun σ' H' p'=>⟨n-(i+1),by omega,rfl,hlt,p'⟩,fun x H' q=>hs i x σ H H' hlt p (S.yld i H x H' hlt (hl i σ H hi p) q)⟩
  · have e:i=n:=by omega
    subst e
    exact .inl ⟨S.stop H (hl _ σ H hi p),hd σ H p⟩
theorem zaE {J:It} {n:Nat} {G:Hp→Prop} {y:Nat→V→Hp→Hp→Prop} (S:Seqs J n G y) {σc:St} {g:TG} {ti:TT} {te:TE} {H:Hp} {Fn:List V→Hp→Prop} (Pv:Nat→List V→Hp→Prop) (h0:Pv 0 [] H) (hl:∀i acc H,i≤n→Pv i acc H→G H)
    (hz:∀i acc H,i<n→Pv i acc H→acc.length<sizeLine)
    (hs:∀i acc x H H',i<n→Pv i acc H→y i x H H'→g x σc H' fun σ2 H2=>ti σ2 H2 fun b H3=>if b=true then te σ2 H3 fun v H4=>Pv (i+1) (acc++[v]) H4 else Pv (i+1) acc H3)
    (hd:∀acc H,Pv n acc H→Fn acc H) :
    ∃W:zeV,(∃m,W 0 m [] H)∧∀i m acc H,W i m acc H→
      (J.stop i H∧Fn acc H)∨
      (J.go i H∧acc.length<sizeLine∧∃N:List V→Hp→Prop,(∀acc' H',N acc' H'→∃m',m'<m∧W (i+1) m' acc' H')∧∀x H',J.yld i H x H'→g x σc H' fun σ2 H2=>ti σ2 H2 fun b H3=>if b=true then te σ2 H3 fun v H4=>N (acc++[v]) H4 else N acc H3):=by
  refine ⟨fun i m acc H=>m=n-i∧i≤n∧Pv i acc H,⟨n,by simp,Nat.zero_le _,h0⟩,?_⟩
  rintro i m acc H ⟨rfl,hi,p⟩
  by_cases hlt:i<n
  · exact .inr ⟨S.go i H hlt (hl i acc H hi p),hz i acc H hlt p,Pv (i+1),fun acc' H' p'=>⟨n-(i+1),by omega,rfl,hlt,p'⟩,fun x H' q=>hs i acc x H H' hlt p (S.yld i H x H' hlt (hl i acc H hi p) q)⟩
  · have e:i=n:=by omega
    subst e
    exact .inl ⟨S.stop H (hl _ acc H hi p),hd acc H p⟩
end L2
end
section
-- text: ExtF
set_option Elab.async false
set_option linter.all false
set_option maxRecDepth 100000
set_option maxHeartbeats 4000000
namespace L2
open PySem PySem.Spec PyProof.Rows
section
variable {X:Cx}
noncomputable def CDv (i j:Int):Prop:=0<j∧j<2^64
theorem CDv.log {i j:Int} (h:CDv i j):j.natAbs.log2<9000:=by
  obtain ⟨h1,h2⟩:=h
  have h0:j.natAbs≠0:=by omega
  have:j.natAbs<2^64:=by omega
  exact Nat.lt_of_lt_of_le ((Nat.log2_lt h0).mpr this) (by decide)
theorem zdb:OpR X (binaryOp .FloorDiv) (rI CDv fun i j=>.int (i/j)):=opI fun i j _ _ _ _ _ hc q=>by
  have h1:(0:Int)<j:=hc.1
  exact floordiv_int (by omega) (by rw [Int.fdiv_eq_ediv_of_nonneg i (by omega)];exact q) (.inl (PyProof.noPylong_of_log2 hc.log))
noncomputable def CDvB (i j:Int):Prop:=0<j∧j<2^1000
theorem CDvB.log {i j:Int} (h:CDvB i j):j.natAbs.log2<9000:=by
  obtain ⟨h1,h2⟩:=h
  have h0:j.natAbs≠0:=by omega
  have:j.natAbs<2^1000:=by omega
  exact Nat.lt_of_lt_of_le ((Nat.log2_lt h0).mpr this) (by decide)
theorem yfn:OpR X (binaryOp .FloorDiv) (rI CDvB fun i j=>.int (i/j)):=opI fun i j _ _ _ _ _ hc q=>by
  have h1:(0:Int)<j:=hc.1
  exact floordiv_int (by omega) (by rw [Int.fdiv_eq_ediv_of_nonneg i (by omega)];exact q) (.inl (PyProof.noPylong_of_log2 hc.log))
theorem zcy:OpR X (inplaceOp .FloorDiv) (rI CDv fun i j=>.int (i/j)):=opI fun i j _ _ _ _ _ hc q=>by
  have h1:(0:Int)<j:=hc.1
  exact ifloordiv_int (by omega) (by rw [Int.fdiv_eq_ediv_of_nonneg i (by omega)];exact q) (.inl (PyProof.noPylong_of_log2 hc.log))
theorem yfy:OpR X (binaryOp .Mult) (rI IntMulOk fun i j=>.int (i*j)):=opI fun _ _ _ _ _ _ _ hc q=>mul_int q hc
noncomputable def rNeE (K:PySem.W.Frag):R2:=fun x y H Q=>∃a b xs,x = .ref a∧y = .ref b∧SqL K H a xs∧SqL K H b []∧Q (.bl (!xs.isEmpty)) H
theorem zfn (hu:X.A.units<cLine):OpR X (compareOp .NotEq) (rNeE X.K):=by
  intro pins s σ H x y v u Q I rx ry h
  obtain ⟨a,b,xs,rfl,rfl,ha,hb,q⟩:=h
  cases rx;cases ry
  obtain ⟨us,r1,p1,z1⟩:=I.list ha
  obtain ⟨vs,r2,p2,z2⟩:=I.list hb
  cases r2
  cases xs with
  | nil =>
    cases r1
    exact SeqAt.RcNeAt.lists (e:=fun _=>true) p1.isList p2.isList rfl hu (fun j h1 _=>absurd h1 (by simp)) _ _ _ _ ⟨.bl false,H,I,rfl,q⟩
  | cons x xs =>
    cases r1
    exact SeqAt.RcNeAt.lists_lengths p1.isList p2.isList (by simp) hu _ _ _ _ ⟨.bl true,H,I,rfl,q⟩
noncomputable def tRev (K:PySem.W.Frag) (te:TE):TE:=fun σ H Q=>te σ H fun x H1=>∃a xs,x = .ref a∧SqL K H1 a xs∧∀p,H1 p=none→Q (.ref p) (upd H1 p (.lst xs.reverse))
theorem zfP {e:Expr} {te:TE} {p0 p1 p2 pos:Pos} {j} (he:PE X e te):PE X (.Subscript e (.Slice none none (some (.UnaryOp .USub (.Constant (.int 1) j p0) p1)) p2) pos) (tRev X.K te):=by
  intro pins s σ H Q I h
  refine Subscript_ (thn (he pins s σ H _ I h) fun v s1 ⟨x,H1,I1,r1,q1⟩=>?_)
  obtain ⟨a,xs,rfl,hx,q⟩:=q1
  cases r1
  refine wpAny_Slice ?_
  rw [evalPart_none]
  refine wpAny_pure ?_
  refine wpAny_pure ?_
  rw [evalPart_some]
  refine thn ((zcc zbu (zab (X:=X))) pins s1 σ H1 (fun v H'=>v = .int (-1)∧H'=H1) I1 ⟨1,rfl,rfl,rfl⟩) fun st s2 ⟨v,H2,I2,r2,e1,e2⟩=>?_
  subst e1 e2
  obtain ⟨t,rfl⟩:=r2
  have I4:Inv X pins σ H2 { s2 with heap:=s2.heap.push { cls:=.type "slice",data:=.fields #[.none,.none,.int (-1) t] } }:=I2.kept (t':=s2.toks) fun b ob q=>Heap.get?_push_of_some _ q
  obtain ⟨its,r,ht,hz⟩:=I4.list hx
  have hlen:=r.length
  show wpAny (model X.prog X.w) X.A (subscriptTail e _ (.ref a) (.ref s2.heap.objs.size)) (EP X pins σ Q) X.xe { s2 with heap:=s2.heap.push { cls:=.type "slice",data:=.fields #[.none,.none,.int (-1) t] } }
  refine tail_any (ops:=[.ref a,.ref s2.heap.objs.size]) ht.isList.typeIs slot_list_getitem.lookup ?_ (by with_unfolding_all rfl)
  refine wpAny_getItem_list_slice ht.isList (Heap.IsSliceOf.new ..) .none .none (.int (-1) t) (by simp) ?_ (by rw [List.size_toArray];omega)
  rw [PySem.W.krv_pick]
  refine ⟨.ref _,_,I4.laid (t':=s2.toks) (o:=.lst xs.reverse) (fun b ob q=>Heap.get?_push_of_some _ q) (Nat.le_refl _) ?_,rfl,q _ (I4.hok.fresh (Nat.le_refl _))⟩
  exact ⟨by rw [List.length_reverse];exact hz,its.reverse,0,r.reverse,Heap.get?_push_size _ rfl⟩
theorem zcp:∀ {bs:List Bool} {us:List Value},Vals (bs.map V.bl) us→us=bs.map Value.bool
  | [],_,.nil=>rfl
  | b::bs,_,.cons r t=>by cases r;rw [zcp t];rfl
theorem yee (bs:List Bool):(List.range bs.length).all (fun i=>bs.getD i true)=bs.all id:=by
  induction bs with
  | nil=>rfl
  | cons b bs ih =>
    rw [List.length_cons,List.range_succ_eq_map,List.all_cons,List.all_cons,List.all_map]
    show ((b::bs).getD 0 true&&_)=_
    rw [List.getD_cons_zero]
    congr 1
noncomputable def yf9 (K:PySem.W.Frag) (f:List Bool→Bool):List V→Hp→VK→Prop:=fun xs H Q=>∃a bs,xs=[.ref a]∧SqL K H a (bs.map V.bl)∧Q (.bl (f bs)) H
theorem zdi {P:Program} {w:World} {A:Around} {bs:List Bool}:TruthOf P w A (fun i v=>(bs.map Value.bool).toArray[i]?=some v) (fun i=>bs.getD i true):=by
  intro i v s Q E hv q
  have hv':bs[i]?.map Value.bool=some v:=by simpa using hv
  cases e:bs[i]? with
  | none=>rw [e] at hv';cases hv'
  | some b =>
    rw [e] at hv';cases hv'
    have e2:bs.getD i true=b:=by simp [List.getD,e]
    have q':Q (bs.getD i true) s:=q
    rw [e2] at q'
    exact wpAny_truthy_bool q'
theorem zcD (hc:X.calm=true):yaT X (.builtin "all") (yf9 X.K fun bs=>bs.all id):=by
  intro pins s σ H xs us Q I r h
  obtain ⟨a,bs,rfl,ha,q⟩:=h
  obtain ⟨u,rfl,rx⟩:=zb4 r
  cases rx
  obtain ⟨its,r1,p1,z1⟩:=I.list ha
  have e:=zcp r1
  subst e
  refine call_all_walk (wpAny_pyIter_list p1.isList ?_)
  have hh:X.A.in1.handled=none:=I.ok.hd hc
  have ne:a≠s.heap.objs.size:=fun z=>by obtain ⟨o,n,e,_⟩:=p1;have l:s.heap.objs.size≥Nat.succ a:=Heap.lt_size e;have z':@Eq Nat a s.heap.objs.size:=z;omega
  refine ⟨_,_,_,_,_,_,_,rfl,Walks.list hh s.heap.objs.size a ne _,⟨⟨_,Heap.get?_push_size _ rfl,rfl,rfl⟩,p1.isList.push _⟩,zdi,fun h' tk k=>?_⟩
  have I1:Inv X pins σ H { s with heap:=h',toks:=tk }:=I.kept fun b o e=>k b o (by simp only [List.mem_singleton];exact Nat.ne_of_lt (Heap.lt_size e)) (Heap.get?_push_of_some _ e)
  refine ⟨.bl _,H,I1,?_,q⟩
  show Value.bool _=Value.bool _
  congr 1
  have:=yee bs
  simpa using this
noncomputable def zfX (K:PySem.W.Frag) (H:Hp):V→String→Prop
  | .non,T=>T = "NoneType"
  | .bl _,T=>T = "bool"
  | .int _,T=>T = "int"
  | .str _,T=>T = "str"
  | .ref a,T=>(T = "list"∧∃xs,SqL K H a xs)∨(T = "tuple"∧∃xs,SqT K H a xs)
  | _,_=>False
noncomputable def subK (T U:String):Bool:=T==U||(T=="bool"&&U=="int")
noncomputable def rIsi (K:PySem.W.Frag) (U:String):List V→Hp→VK→Prop:=fun xs H Q=>∃x T,xs=[x,.ty U]∧zfX K H x T∧Q (.bl (subK T U)) H
theorem zbD {T U:String} (h:subK T U=false):(Value.type T==Value.type U)=false:=by
  have:T≠U:=fun e=>by subst e;simp [subK] at h
  simpa using this
theorem ycH {U:String} (hty:typeOf (.type U)=pure (.type "type")) (hs:∀T∈["NoneType","bool","int","str","list","tuple"],isSubtype (.type T) (.type U)=pure (subK T U)):yaT X (.builtin "isinstance") (rIsi X.K U):=by
  intro pins s σ H xs us Q I r h
  obtain ⟨x,T,rfl,hk,q⟩:=h
  obtain ⟨u,w',rfl,rx,ry⟩:=yeP r
  cases ry
  have yes:∀ {v:Value},subK T U=true→s.TypeIs v T→T∈["NoneType","bool","int","str","list","tuple"]→wpAny (model X.prog X.w) X.A (call (.builtin "isinstance") [v,.type U]) (EP X pins σ Q) X.xe s:=fun {v} hb ht hm =>
    call_isinstance_yes ht hty (by rw [hs T hm,hb]) ⟨.bl true,H,I,rfl,by rw [←hb];exact q⟩
  have no:∀t,subK T U=false→EP X pins σ Q (.bool false) { s with toks:=t }:=fun t hb=>⟨.bl false,H,I.tok _,rfl,by rw [←hb];exact q⟩
  cases x with
  | non =>
    cases rx;obtain rfl:T = "NoneType":=hk
    cases hb:subK "NoneType" U with
    | true=>exact yes hb rfl (by simp)
    | false=>exact call_isinstance (isinstance_false_none (zbD hb) hty (by rw [hs _ (by simp),hb])) (no _ hb)
  | bl b =>
    cases rx;obtain rfl:T = "bool":=hk
    cases hb:subK "bool" U with
    | true=>exact yes hb rfl (by simp)
    | false=>exact call_isinstance (isinstance_false_bool (zbD hb) hty (by rw [hs _ (by simp),hb])) (no _ hb)
  | int i =>
    obtain ⟨t,rfl⟩:=rx;obtain rfl:T = "int":=hk
    cases hb:subK "int" U with
    | true=>exact yes hb (typeIs_int s i t) (by simp)
    | false=>exact call_isinstance (isinstance_false_int (zbD hb) hty (by rw [hs _ (by simp),hb])) (no _ hb)
  | str i =>
    obtain ⟨t,rfl⟩:=rx;obtain rfl:T = "str":=hk
    cases hb:subK "str" U with
    | true=>exact yes hb rfl (by simp)
    | false=>exact call_isinstance (isinstance_false_str (zbD hb) hty (by rw [hs _ (by simp),hb])) (no _ hb)
  | ref a =>
    cases rx
    rcases hk with ⟨rfl,xs,hx⟩ | ⟨rfl,xs,hx⟩
    · obtain ⟨its,r1,p1,z1⟩:=I.list hx
      cases hb:subK "list" U with
      | true=>exact yes hb p1.isList.typeIs (by simp)
      | false=>exact call_isinstance (isinstance_false_list (zbD hb) hty (by rw [hs _ (by simp),hb])) ⟨let ⟨o,e,c,_⟩:=p1.isList;⟨o,e,c⟩,no _ hb⟩
    · obtain ⟨its,r1,p1,z1⟩:=I.tuple hx
      cases hb:subK "tuple" U with
      | true=>exact yes hb (show s.TypeIs (.ref a) "tuple" from let ⟨o,e,c,_⟩:=p1;⟨o,e,c⟩) (by simp)
      | false=>exact call_isinstance (isinstance_false_tuple (zbD hb) hty (by rw [hs _ (by simp),hb])) ⟨let ⟨o,e,c,_⟩:=p1;⟨o,e,c⟩,no _ hb⟩
  | _=>exact False.elim hk
theorem yfD:yaT X (.builtin "isinstance") (rIsi X.K "int"):=ycH (by rfl) (by intro T hT;simp only [List.mem_cons,List.not_mem_nil,or_false] at hT;rcases hT with rfl|rfl|rfl|rfl|rfl|rfl <;> (rw [isSubtype_type];kernel_rfl))
theorem ze7:yaT X (.builtin "isinstance") (rIsi X.K "bool"):=ycH (by rfl) (by intro T hT;simp only [List.mem_cons,List.not_mem_nil,or_false] at hT;rcases hT with rfl|rfl|rfl|rfl|rfl|rfl <;> (rw [isSubtype_type];kernel_rfl))
theorem zeG:yaT X (.builtin "isinstance") (rIsi X.K "tuple"):=ycH (by rfl) (by intro T hT;simp only [List.mem_cons,List.not_mem_nil,or_false] at hT;rcases hT with rfl|rfl|rfl|rfl|rfl|rfl <;> (rw [isSubtype_type];kernel_rfl))
noncomputable def Itd (hi:Int) (n:Nat):It:=⟨fun i _=>i<n,fun i H x H'=>H'=H∧x = .int (hi-i),fun i _=>n≤i⟩
theorem zel {P:Program} {w:World} {K:PySem.W.Frag} {tg:Expr} (it:Addr) (hi:Int) (n:Nat):Turn P w K tg (Itd hi n) [it] it (fun i h=>IsRangeIter h it (hi+(i:Nat)*(-1)) ((n:Int)-(i:Nat)) (-1)) where
  mem:=by simp
  obj:=fun i h st b hb=>by
    have e:b=it:=by simpa using hb
    subst e
    exact ⟨_,st,fun v z=>by have z':Data.fields _=Data.cell v:=z;cases z'⟩
  keep:=fun i h h' st k=>k it (by simp) _ st
  item:=by
    intro X hP hw hK hc i pins s σ H E I hf st hg
    subst hP hw hK
    obtain ⟨f0,f1,f2,f3,f4,f5⟩:=hf it (by simp)
    have W:=Walks.range (prog:=X.prog) (w:=X.w) (I.ok.hd hc) it hi (-1) n
    refine W.item i s _ _ hg st fun v h' tk hv st' kk=>?_
    obtain ⟨t,rfl⟩:=hv
    have I1:Inv X pins σ H { s with heap:=h',toks:=tk }:=I.turned (fun b o hb e=>kk b o (by simpa using hb) e) f0 f1 f3 f4 f5
    refine ⟨_,rfl,yeO (s:={ s with heap:=h',toks:=tk }) (n:="range_iterator") st' rfl rfl (by decide) ⟨.int (hi-i),H,I1,⟨t,?_⟩,⟨rfl,rfl⟩,st',fun b hb=>(hf b hb).1⟩⟩
    congr 1;omega
  done:=by
    intro X hP hw hK hc i pins s σ H E I hf st hg
    subst hP hw hK
    obtain ⟨f0,f1,f2,f3,f4,f5⟩:=hf it (by simp)
    exact wpAny_pyNext_range_end (I.ok.hd hc) st (by have:n≤i:=hg;omega) fun h' eb=>⟨rfl,I.turned (t':=s.toks) (fun b o hb e=>eb b o hb e) f0 f1 f3 f4 f5⟩
  self:=fun _ _ _ _ _ st h=>wpAny_pyIter_rangeiter st h
theorem ybp {hi:Int} {n:Nat}:Seqs (Itd hi n) n (fun _=>True) (fun i x H H'=>H'=H∧x = .int (hi-i)) :=
  ⟨fun i H hi _=>hi,fun H _=>Nat.le_refl _,fun i H x H' hi _ q=>q⟩
noncomputable def zgl (ta:TA):TI:=fun σ H R=>ta σ H fun vs H1=>∃i j:Int,vs=[.int i,.int j,.int (-1)]∧(-(2^62)≤i∧i<2^62∧-(2^62)≤j∧j<2^62)∧R (Itd i (i-j).toNat) H1
theorem zb8 {a b c:Expr} {ta:TA} {tg:Expr} {p pos:Pos} (hg:Gl X "range") (hm:X.mg "range"=none) (ha:PA X [a,b,c] ta) (hs:starEach [a,b,c] X.env=(false,eval a X.env)::starEach [b,c] X.env:=by rfl) (hs2:(backTo pos (starEach [b,c] X.env)).any (·.1)=false:=by rfl) :
    PI X tg (.Call (.Name "range" p) [a,b,c] [] pos) (zgl ta):=by
  intro pins s σ H R I h
  refine Call_ (zbz I hg hm boot_range (PyProof.Rows.callWith_type1 (thn (ha pos pins s σ H _ I h) fun us s1 ⟨vs,H1,I1,r1,q1⟩=>?_) hs hs2))
  obtain ⟨i,j,e,⟨b1,b2,b3,b4⟩,q⟩:=q1
  subst e
  cases r1 with
  | cons r rr =>
    cases rr with
    | cons r' rr =>
      cases rr with
      | cons r'' rr =>
        cases rr
        obtain ⟨t,rfl⟩:=r
        obtain ⟨t',rfl⟩:=r'
        obtain ⟨t'',rfl⟩:=r''
        refine call_range_3 (by decide) ?_ (.inl (PyProof.noPylong_small (by decide)))
        refine wpAny_pyIter_range (IsRange.new ..) (PySem.W.small_down b1 b2 b3 b4) ?_
        generalize hG:s1.heap.push { cls:=.type "range",data:=.fields #[.int i t,.int j t',.int (-1) t''] }=G
        have I2:Inv X pins σ H1 { s1 with heap:=G }:=I1.kept (t':=s1.toks) fun b o e=>hG ▸ Heap.get?_push_of_some _ e
        refine ⟨G.objs.size,[G.objs.size],_,_,H1,rfl,I2.kept (t':=s1.toks) fun b o e=>Heap.get?_push_of_some _ e,zel _ i (i-j).toNat,?_,fun b hb=>?_,q⟩
        · have e1:i+((0:Nat):Int)*(-1)=i:=by simp
          have e2:(((i-j).toNat:Nat):Int)-((0:Nat):Int)=Builtin.Range.rangeSize i j (-1):=by rw [PySem.W.rangeSize_downNat];simp
          show IsRangeIter _ _ (i+((0:Nat):Int)*(-1)) ((((i-j).toNat:Nat):Int)-((0:Nat):Int)) (-1)
          rw [e1,e2]
          exact Heap.get?_push_size _ rfl
        · have e:b=G.objs.size:=by simpa using hb
          subst e
          exact I2.fpOk (Nat.le_refl _) (I2.hok.fresh (Nat.le_refl _))
noncomputable def tRng (ta:TA):TE:=fun σ H Q=>ta σ H fun vs H1=>∃j:Int,vs=[.int j]∧∀p,H1 p=none→Q (.ref p) (upd H1 p (.rng 0 j))
theorem yej {a:Expr} {ta:TA} {p pos:Pos} (hg:Gl X "range") (hm:X.mg "range"=none) (ha:PA X [a] ta) (hs:starEach [a] X.env=[(false,eval a X.env)]:=by rfl):PE X (.Call (.Name "range" p) [a] [] pos) (tRng ta):=by
  intro pins s σ H Q I h
  refine Call_ (zbz I hg hm boot_range (PyProof.Rows.callWith_type1 (thn (ha pos pins s σ H _ I h) fun us s1 ⟨vs,H1,I1,r1,q1⟩=>?_) hs rfl))
  obtain ⟨j,e,q⟩:=q1
  subst e
  cases r1 with
  | cons r rr =>
    cases rr
    obtain ⟨t,rfl⟩:=r
    exact call_range_1 ⟨.ref _,_,I1.laid (o:=.rng 0 j) (fun b o e=>Heap.get?_push_of_some _ e) (Nat.le_refl _) ⟨_,_,_,Heap.get?_push_size _ rfl⟩,rfl,q _ I1.fresh⟩
noncomputable def intsFrom (lo:Int) (n:Nat):List V:=(List.range n).map fun (i:Nat)=>V.int (lo+(i:Int))
theorem yca:∀ {xs:List V} {us:List Value},xs.length=us.length→(∀(i:Nat) x u,xs[i]?=some x→us[i]?=some u→RelV x u)→Vals xs us
  | [],[],_,_=>.nil
  | [],_::_,h,_=>by simp at h
  | _::_,[],h,_=>by simp at h
  | x::xs,u::us,h,g=>.cons (g 0 x u rfl rfl) (yca (by simpa using h) fun i y v e1 e2=>g (i+1) y v (by simpa using e1) (by simpa using e2))
theorem ycX {lo:Int} {n:Nat} {acc:Array Value} (h:ItemsOf (fun i v=>∃t,v = .int (lo+i*1) t) acc n):Vals (intsFrom lo n) acc.toList:=by
  refine yca (by simp [intsFrom,h.1]) fun i x u e1 e2=>?_
  obtain ⟨t,rfl⟩:=h.2 i u (by simpa using e2)
  have:x=V.int (lo+i):=by
    unfold intsFrom at e1
    rw [List.getElem?_map] at e1
    cases hr:(List.range n)[i]? with
    | none=>rw [hr] at e1;cases e1
    | some j =>
      rw [hr] at e1
      have:j=i:=by
        obtain ⟨h1,h2⟩:=List.getElem?_eq_some_iff.mp hr
        simpa using h2.symm
      subst this
      exact (Option.some.inj e1).symm
  subst this
  exact ⟨t,by simp⟩
theorem ycu (hc:X.calm=true):yaT X (.type "list") (fun xs H Q=>∃p lo hi,xs=[.ref p]∧H p=some (.rng lo hi)∧(-(2^62)≤lo∧lo<2^62∧-(2^62)≤hi∧hi<2^62)∧(hi-lo).toNat≤sizeLine∧∀l,H l=none→Q (.ref l) (upd H l (.lst (intsFrom lo (hi-lo).toNat)))):=by
  intro pins s σ H xs us Q I r h
  obtain ⟨p,lo,hi,rfl,hp,⟨b1,b2,b3,b4⟩,hz,q⟩:=h
  obtain ⟨u,rfl,rx⟩:=zb4 r
  cases rx
  obtain ⟨t,u,v,e⟩:=I.hok p _ hp
  refine call_list_range (n:=(hi-lo).toNat) (I.ok.hd hc) e (small_one b1 b2 b3 b4) (by rw [rangeSize_one];split <;> omega) (by have:=sizeLine_eq;omega) fun h' tk acc c k ho hi'=>?_
  have rv:=ycX hi'
  refine ⟨.ref _,_,I.laid (t':=tk) k (Nat.le_refl _) (show yaZ X.prog X.w _ h' _ (.lst (intsFrom lo (hi-lo).toNat)) from ⟨?_,acc.toList,c,rv,by simpa using ho⟩),rfl,q _ I.fresh⟩
  simpa [intsFrom] using hz
noncomputable def Has (P:Program) (w:World) (K:PySem.W.Frag) (mg:Str→Option Value) (base:Heap) (n:Nat) (x:Str) (ps:List Str) (sp:Sp):Prop :=
  ∃f fd,FnOk P w K mg base CX0 n f fd ps sp∧ydg K fd ps []∧PySem.W.keepIn K (.ref f)=true∧mg x=some (.ref f)
theorem zae {n k:Nat} {x:Str} {ps:List Str} {sp:Sp} {e:Expr} {es:List Expr} {t:TA} {p pos:Pos} (h:Has X.prog X.w X.K X.mg X.base n x ps sp) (hr:Room k X.A) (hle:n≤k) (hg:Gl X x) (ha:PA X (e::es) t)
    (hdb:(x==("__debug__":Str))=false:=by decide) (he:starEach (e::es) X.env=(false,eval e X.env)::starEach es X.env:=by rfl) (hpl:(backTo pos (starEach es X.env)).any (·.1)=false:=by rfl) :
    PE X (.Call (.Name x p) (e::es) [] pos) (zfG sp [] E0 t):=by
  obtain ⟨f,fd,F,B,kp,m⟩:=h
  exact yfs F (hr.mono hle) hg m kp B .nil ygc ha hdb he hpl
theorem zax {c:TT} {tb:TS} {D:Ends} {σ:St} {H:Hp} (Pv:St→Hp→Prop) (μ:St→Hp→Nat) (h0:Pv σ H)
    (hs:∀σ H,Pv σ H→c σ H fun b H1=>if b=true then ∃N:St→Hp→Prop,(∀σ' H',N σ' H'→∃m',m' < μ σ H∧m'=μ σ' H'∧Pv σ' H')∧tb { D with nx:=N,ct:=N,bk:=D.nx } σ H1 else D.nx σ H1):yfm c tb D σ H:=by
  refine ⟨fun m σ H=>m=μ σ H∧Pv σ H,⟨_,rfl,h0⟩,?_⟩
  rintro m σ H ⟨rfl,p⟩
  exact hs σ H p
end
end L2
end
section
-- text: ExtG
set_option Elab.async false
set_option linter.all false
set_option maxRecDepth 100000
set_option maxHeartbeats 4000000
namespace L2
open PySem PySem.Spec PyProof.Rows
section
variable {X:Cx}
theorem ycR:bootBuiltins "list"=some (.type "list"):=by decide +kernel
theorem ybL:bootBuiltins "tuple"=some (.type "tuple"):=by decide +kernel
theorem yb8:bootBuiltins "int"=some (.type "int"):=by decide +kernel
theorem yc9:bootBuiltins "bool"=some (.type "bool"):=by decide +kernel
theorem yb3:bootBuiltins "abs"=some (.builtin "abs"):=by decide +kernel
theorem zdl:bootBuiltins "min"=some (.builtin "min"):=by decide +kernel
theorem ydx:bootBuiltins "max"=some (.builtin "max"):=by decide +kernel
theorem zcN (i:Int) (t:Tok):RelV (.int i) (.int i t):=⟨t,rfl⟩
theorem yfB {es:List Expr} {k:Nat} {t:TGs} {n:Nat} {pos:Pos} {K:PySem.W.Frag} (hK:X.K=K) (hc:X.calm=true) (h:PGs X es t)
    (hn:(assignEach es X.env).length=n:=by rfl) (hst:(assignEach es X.env).findIdx? (·.1)=none:=by rfl):PG X (.Tuple es k pos) (gTup K n t):=hK ▸ zbo hc h hn hst
end
end L2
end
section
-- text: ExtH
set_option Elab.async false
set_option linter.all false
set_option maxRecDepth 100000
set_option maxHeartbeats 4000000
namespace L2
open PySem PySem.Spec PyProof.Rows
theorem zen {prog:Program} {w:World} {A:Around} {E:Value→Shared→Prop} {s:Shared} {a:Addr} {xs:Array Value} {k:Nat} {sl:Array (Option Value)} {u:Tok} {Q:Value→Shared→Prop}
    (hx:s.heap.get? a=some { cls:=.type "list",dict:=none,data:=.seq xs k,slots:=sl }) (hA:A.handled=none)
    (h:∀h' tk e,Heap.NewExcOf s.heap h' e "AttributeError"→E (.ref e) { s with heap:=h',toks:=tk }) :
    wpAny (model prog w) A (getAttrBy (.ref a) (.str "keys" u) false) Q E s:=by
  have hmiss:typeLookup (.type "list") "keys"=pure none:=by rw [typeLookup_type,builtinLookup_eq_fast];kernel_rfl
  obtain ⟨hp,g,d,tk,os⟩:=s
  have hT:∀tk',(⟨hp,g,d,tk',os⟩:Shared).TypeIs (.ref a) "list":=fun _=>⟨_,hx,rfl⟩
  have f1:=sub_AttributeError
  have f3:=F.slot_list_getattribute.lookup
  have f4:=F.slot_list_getattribute.bind (.ref a)
  have f5:=am_list_getattr_none
  unfold getAttrBy
  repeat (any_goals (first|assumption|exact hT _|((with_reducible show wpAny _ _ (call (Value.builtin "list.__getattribute__") _ _) _ _ _);refine call_meets F.slot_list_getattribute (hT _) am_entry_list_getattribute (F.args_list_getattribute_2 _ _) (meets_getattribute_miss_list a xs k sl "keys" _ hmiss (by decide +kernel)) ⟨hx,hA,fun h' tk' e hx'=>?_⟩)|wp_step))
  obtain ⟨t',u',he⟩:=hx'.there
  show wpAny _ _ (getattributeRaised _ _ _ _ _ _ _) _ _ _
  unfold getattributeRaised
  repeat (any_goals (first|assumption|wp_step))
  exact h _ _ _ hx'.of
theorem yec {prog:Program} {w:World} {A:Around} {E:Value→Shared→Prop} {s:Shared} {a:Addr} {xs:Array Value} {k:Nat} {sl:Array (Option Value)} {Q:Option Value→Shared→Prop}
    (hx:s.heap.get? a=some { cls:=.type "list",dict:=none,data:=.seq xs k,slots:=sl }) (hA:A.handled=none)
    (h:∀h' tk,(∀b o,s.heap.get? b=some o→h'.get? b=some o)→Q none { s with heap:=h',toks:=tk }) :
    wpAny (model prog w) A (getAttr? (.ref a) "keys") Q E s:=by
  have f1:=sub_AttributeError
  unfold getAttr? getAttrBy?
  refine wpAny_bind (wpAny_mkText ?_)
  refine wpAny_bind ?_
  refine wpAny_attempt ?_
  refine zen (by exact hx) hA fun h' tk e ne=>?_
  obtain ⟨oe,_,he,hc,_⟩:=ne.there
  show wpAny _ _ (isInstance (.ref e) (.type "AttributeError") >>= _) _ _ _
  refine wpAny_bind (wpAny_isInstance ⟨_,he,hc⟩ f1 ?_)
  exact wpAny_pure (h _ _ ne.keeps)
theorem ybs:entryFor table "dict.update.loop"=some Builtin.«dict.update.loop»:=entryFor_of_fast (by kernel_rfl)
theorem zaU:plainId "dict.update.loop"=true:=by decide +kernel
section
variable {prog:Program} {w:World} {K:Type} [DecidableEq K] {knd:KeyKind prog w K} {A:Around} {R:Result→Shared→Prop} {I ax d:Addr}
theorem zd7 (hh:A.in1.handled=none) (items:Array Value) (more:List (K×Value)) (hne:ax≠I) (hdI:d≠I) (hda:d≠ax) (hsz:items.size≤sizeLine) (hml:more.length=items.size)
    (tp:Nat→Addr) (hit:∀j,j<items.size→items[j]?=some (.ref (tp j))) (htd:∀j,j<items.size→tp j≠d∧tp j≠I) :
    ∀(k i:Nat) (s:Shared) (t:Tok) (kvs:List (K×Value)),items.size-i=k→i≤items.size→s.heap.IsListIter I ax i∧s.heap.IsList ax items→s.heap.DictOf knd d kvs→kvs.length≤i→
    (∀j kv,more[j]?=some kv→∃key,knd.is kv.1 key=true∧s.heap.IsTuple (tp j) #[key,kv.2])→
    (∀s',s'.heap.DictOf knd d (merged kvs (more.drop i))→(∀b o,b≠I→b≠d→s.heap.get? b=some o→s'.heap.get? b=some o)→(∃h' tk,s'={ s with heap:=h',toks:=tk })→R (.ok (.ret .none)) s')→
    codeAny (model prog w) A (.builtin "dict.update.loop" ⟨[.ref d,.ref I,.int (i:Int) t,.none],[]⟩) R s:=by
  have W:=Walks.list (prog:=prog) (w:=w) hh I ax hne items
  intro k
  induction k with
  | zero =>
    intro i s t kvs hk hi hst hd hkl hpairs hR
    have hin:i=items.size:=by omega
    subst hin
    refine codeAny_builtin ybs ?_
    rw [Around.under_plainId zaU _]
    show wpAny _ A.in1 (pyNext (.ref I) >>= _) _ _ s
    refine wpAny_bind (W.done s _ _ hst fun h' tk hk'=>?_)
    have hm:more.drop items.size=[]:=List.drop_of_length_le (by omega)
    rw [hm] at hR
    have hd':h'.DictOf knd d kvs:=hd.at fun o e=>hk' d o (by simp [hdI]) e
    refine wpAny_pure (hR { s with heap:=h',toks:=tk } hd' (fun b o h1 h2 e=>hk' b o (by simp [h1]) e) ⟨_,_,rfl⟩)
  | succ k ih =>
    intro i s t kvs hk hi hst hd hkl hpairs hR
    have hlt:i<items.size:=by omega
    refine codeAny_builtin ybs ?_
    rw [Around.under_plainId zaU _]
    show wpAny _ A.in1 (pyNext (.ref I) >>= _) _ _ s
    refine wpAny_bind (W.item i s _ _ hlt hst fun v h' tk hP hst' hk'=>?_)
    rw [hit i hlt] at hP
    cases hP
    obtain ⟨kv,hkv⟩:∃kv,more[i]?=some kv:=⟨more[i]'(by omega),List.getElem?_eq_getElem (by omega)⟩
    obtain ⟨key,hkey,htup⟩:=hpairs i kv hkv
    have htup':h'.IsTuple (tp i) #[key,kv.2]:=htup.at fun o e=>hk' _ o (by simp [(htd i hlt).2]) e
    obtain ⟨ot,hot,hoc,nn,hod⟩:=id htup'
    have hd':h'.DictOf knd d kvs:=hd.at fun o e=>hk' d o (by simp [hdI]) e
    refine wpAny_bind (wpAny_holding ?_)
    refine wpAny_bind (wpAny_tryCatch ?_)
    unfold Builtin.Dict.pairItems
    refine wpAny_bind (wpAny_typeOf ⟨_,hot,hoc⟩ ?_)
    rw [if_pos (by decide)]
    refine wpAny_bind (wpAny_seqItems hot hod ?_)
    refine wpAny_pure ?_
    show wpAny _ A.in1 (holding [key,kv.2] (dictSet d key kv.2)) _ _ _
    refine wpAny_holding (wpAny_dictSet_pairs (hsz:=by omega) hkey hd' fun h2 hd2 hs2=>?_)
    have step:more.drop i=kv::more.drop (i+1):=by
      rw [List.drop_eq_getElem_cons (by omega)]
      congr 1
      exact Option.some.inj ((List.getElem?_eq_getElem (by omega)).symm.trans hkv)
    refine wpAny_pure ⟨plainId_quiet zaU _,ih (i+1) _ _ (stored kvs kv.1 kv.2) (by omega) hlt ?_ hd2 ?_ (fun j kv' hj=>?_) fun s' h1 h2' h3=>hR s' ?_ (fun b o n1 n2 e=>h2' b o n1 n2 (hs2.extBut b o n2 (hk' b o (by simp [n1]) e))) ?_⟩
    · exact W.frame _ _ _ hst' fun b hb o e=>hs2.extBut b o (by simp only [List.mem_cons,List.not_mem_nil,or_false] at hb;rcases hb with rfl|rfl;exact Ne.symm hdI;exact Ne.symm hda) e
    · have:=stored_length_le kvs kv.1 kv.2;omega
    · obtain ⟨key',a1,a2⟩:=hpairs j kv' hj
      have hj':j<items.size:=by rw [←hml];exact (List.getElem?_eq_some_iff.mp hj).1
      exact ⟨key',a1,(a2.at fun o e=>hk' _ o (by simp [(htd j hj').2]) e).at fun o e=>hs2.extBut _ o (htd j hj').1 e⟩
    · rw [step];exact h1
    · obtain ⟨h4,tk4,rfl⟩:=h3;exact ⟨_,_,rfl⟩
end
section
variable {X:Cx}
theorem Vals.getR:∀ {xs:List V} {us:List Value},Vals xs us→∀(j:Nat) x u,xs[j]?=some x→us[j]?=some u→RelV x u
  | _,_,.nil,j,x,u,e,_=>by simp at e
  | _::_,_::_,.cons r t,0,x,u,e1,e2=>by simp at e1 e2;subst e1 e2;exact r
  | _::_,_::_,.cons r t,j+1,x,u,e1,e2=>Vals.getR t j x u (by simpa using e1) (by simpa using e2)
noncomputable def zfJ:List V→Hp→VK→Prop:=fun xs H Q=>∃(a:Addr) (ts:List Addr) (kvs:List (Key×V)),xs=[.ref a]∧H a=some (.lst (ts.map V.ref))∧ts.length=kvs.length∧kvs.length≤sizeLine∧
  (∀(j:Nat) t kv,ts[j]?=some t→kvs[j]?=some kv→H t=some (.tup [kV kv.1,kv.2]))∧(kvs.map (·.1)).Nodup∧∀D,H D=none→Q (.ref D) (upd H D (.dK kvs))
theorem yck {P:Program} {w:World} {pins:List (Addr×Obj)} {σ:St} {H:Hp} {s:Shared} (I:Inv X pins σ H s):∀(ts:List Addr) (kvs:List (Key×V)),ts.length=kvs.length→(∀(j:Nat) t kv,ts[j]?=some t→kvs[j]?=some kv→H t=some (.tup [kV kv.1,kv.2]))→
    ∃vs:List (Key×Value),KV kvs vs∧vs.length=ts.length∧∀(j:Nat) kv t,vs[j]?=some kv→ts[j]?=some t→∃key,(zaH P w).is kv.1 key=true∧s.heap.IsTuple t #[key,kv.2]
  | [],[],_,_=>⟨[],.nil,rfl,fun j kv t e=>by simp at e⟩
  | [],_::_,h,_=>by simp at h
  | _::_,[],h,_=>by simp at h
  | t::ts,kv::kvs,h,hp=>by
    obtain ⟨vs,h1,h2,h3⟩:=yck I ts kvs (by simpa using h) fun j t' kv' e1 e2=>hp (j+1) t' kv' (by simpa using e1) (by simpa using e2)
    obtain ⟨its,r,p,_⟩:=I.tuple (SqT.of (hp 0 t kv rfl rfl))
    cases r with
    | cons ra rr =>
      cases rr with
      | cons rb rz =>
        cases rz
        rename_i ka va
        refine ⟨(kv.1,va)::vs,.cons ⟨rfl,rb⟩ h1,by simp [h2],fun j kv' t' e1 e2=>?_⟩
        cases j with
        | zero =>
          simp at e1 e2
          subst e1 e2
          exact ⟨ka,zeN ra,p⟩
        | succ j=>exact h3 j kv' t' (by simpa using e1) (by simpa using e2)
theorem zca (hc:X.calm=true):yaT X (.type "dict") zfJ:=by
  intro pins s σ H xs us Q I r h
  obtain ⟨a,ts,kvs,rfl,ha,hl,hsz,hp,hn,q⟩:=h
  obtain ⟨u,rfl,rx⟩:=zb4 r
  cases rx
  obtain ⟨its,r1,p1,z1⟩:=I.list (SqL.of ha)
  refine callType_codes (Q₁:=fun obj s₁=>obj = .ref s.heap.objs.size∧s₁={ s with heap:=s.heap.push { cls:=.type "dict",data:=.dict #[] } }) F.kt_called_dict (F.kt_typeCall_dict_1 _) F.entry_dict_init (kt_code_dict_new _ ⟨rfl,rfl⟩) ?_
  rintro obj s₁ ⟨rfl,rfl⟩
  have hnew:(s.heap.push { cls:=.type "dict",data:=.dict #[] }).DictOf (zaH X.prog X.w) s.heap.objs.size []:=Heap.DictOf.new s.heap
  refine ⟨hnew.typeIs,F.args_dict_init_2 _ _,?_⟩
  unfold Builtin.«dict.__init__»
  refine wpAny_bind ?_
  unfold Builtin.Dict.selfAndRest
  refine wpAny_bind (wpAny_notOrdered_dict hnew.typeIs ?_)
  show wpAny _ _ (pure (s.heap.objs.size,[Value.ref a])) _ _ _
  refine wpAny_pure ?_
  show wpAny _ _ (Builtin.Dict.updateFrom "dict.__init__" s.heap.objs.size (.ref a) [] .none) _ _ _
  unfold Builtin.Dict.updateFrom
  have hne:∀b o,s.heap.get? b=some o→b≠s.heap.objs.size:=fun b o e z=>by have l:s.heap.objs.size≥Nat.succ b:=Heap.lt_size e;have z':@Eq Nat b s.heap.objs.size:=z;omega
  obtain ⟨vs,hKV,hvl,hvs⟩:=yck (P:=X.prog) (w:=X.w) I ts kvs hl hp
  have hA:X.A.in1.in1.handled=none:=I.ok.hd hc
  obtain ⟨⟨ca,da,dta,sla⟩,na,hoa,hca,hda,hdt⟩:=id p1
  dsimp only at hca hda hdt
  subst hca hda hdt
  have e1:(s.heap.push { cls:=.type "dict",data:=.dict #[] }).get? a=some { cls:=.type "list",dict:=none,data:=.seq its.toArray na,slots:=sla }:=Heap.get?_push_of_some _ hoa
  refine wpAny_bind (wpAny_typeOf ⟨_,e1,rfl⟩ ?_)
  dsimp only
  rw [if_pos (by decide)]
  refine wpAny_bind (yec e1 hA fun h1 tk1 hk1=>?_)
  rw [if_pos (show (none:Option Value).isNone=true from rfl)]
  refine wpAny_bind (wpAny_rule ?_)
  have e2:h1.IsList a its.toArray:=⟨_,hk1 _ _ e1,rfl,na,rfl⟩
  refine wpAny_bind (wpAny_pyIter_list e2 ?_)
  have hN:s.heap.objs.size<h1.objs.size:=Heap.lt_size (hk1 _ _ (Heap.get?_push_size _ rfl))
  have hI:∀b o,h1.get? b=some o→b≠h1.objs.size:=fun b o e z=>by have l:h1.objs.size≥Nat.succ b:=Heap.lt_size e;have z':@Eq Nat b h1.objs.size:=z;omega
  have kp:∀b o,s.heap.get? b=some o→(h1.push { cls:=.type "list_iterator",data:=.fields #[.ref a,.int 0 0] }).get? b=some o:=fun b o e=>Heap.get?_push_of_some _ (hk1 _ _ (Heap.get?_push_of_some _ e))
  have hr1:=r1.length
  have hlen:its.toArray.size=ts.length:=by rw [List.size_toArray,←hr1,List.length_map]
  have hti:∀j,j<its.toArray.size→its.toArray[j]?=some (.ref (ts.getD j 0)):=by
    intro j hj
    rw [hlen] at hj
    have hj2:j<its.length:=by rw [←hr1,List.length_map];exact hj
    rw [List.getElem?_toArray,List.getElem?_eq_getElem hj2]
    have g:=Vals.getR r1 j (.ref (ts.getD j 0)) its[j] (by rw [List.getElem?_map,List.getElem?_eq_getElem hj];simp [List.getD,hj]) (List.getElem?_eq_getElem hj2)
    exact congrArg some g
  have htu:∀j,j<its.toArray.size→∃o,s.heap.get? (ts.getD j 0)=some o:=by
    intro j hj
    rw [hlen] at hj
    have hj2:j<vs.length:=by rw [hvl];exact hj
    obtain ⟨key,_,o,ho,_⟩:=hvs j vs[j] (ts.getD j 0) (List.getElem?_eq_getElem hj2) (by simp [List.getD,hj])
    exact ⟨o,ho⟩
  refine wpAny_pure ⟨plainId_quiet zaU _,?_⟩
  refine zd7 (knd:=zaH X.prog X.w) (A:=X.A.in1) (I:=h1.objs.size) (ax:=a) (d:=s.heap.objs.size) hA its.toArray vs (hI _ _ (hk1 _ _ e1)) (Nat.ne_of_lt hN) (Ne.symm (hne _ _ hoa)) (by rw [hlen,hl];exact hsz) (by rw [hvl,hlen]) (fun j=>ts.getD j 0) hti
    (fun j hj=>by obtain ⟨o,ho⟩:=htu j hj;exact ⟨hne _ _ ho,hI _ _ (hk1 _ _ (Heap.get?_push_of_some _ ho))⟩) _ 0 _ _ [] rfl (Nat.zero_le _) ⟨⟨_,Heap.get?_push_size _ rfl,rfl,rfl⟩,e2.push _⟩ ?_ (Nat.le_refl _) ?_ ?_
  · exact (hnew.at fun o e=>hk1 _ _ e).push _
  · intro j kv hj
    have hj2:j<ts.length:=by rw [←hvl];exact (List.getElem?_eq_some_iff.mp hj).1
    obtain ⟨key,k1,k2⟩:=hvs j kv (ts.getD j 0) hj (by simp [List.getD,hj2])
    exact ⟨key,k1,k2.at fun o e=>kp _ _ e⟩
  · rintro s' hd hk ⟨h',tk,rfl⟩
    have hkeys:vs.map (·.1)=kvs.map (·.1):=(KV.keys hKV).symm
    rw [List.drop_zero,merged_nil_of_nodup vs (by rw [hkeys];exact hn)] at hd
    refine ⟨rfl,.ref s.heap.objs.size,_,I.laid (a:=s.heap.objs.size) (o:=.dK kvs) (t':=tk) (h':=h') (fun b o e=>hk b o (hI _ _ (hk1 _ _ (Heap.get?_push_of_some _ e))) (hne _ _ e) (kp _ _ e)) (Nat.le_refl _) ⟨hsz,beq_eq_false_iff_ne.mpr (Ne.symm (Nat.ne_of_lt I.big)),vs,hKV,hd⟩,rfl,q _ (I.hok.fresh (Nat.le_refl _))⟩
end
end L2
end
section
-- text: ExtI
set_option Elab.async false
set_option linter.all false
set_option maxRecDepth 100000
set_option maxHeartbeats 4000000
namespace L2
open PySem PySem.Spec PyProof.Rows
section
variable {X:Cx}
theorem yeC {A:Around} {s:Shared}:∀ {xs:List Int} {us:List Value},Vals (xs.map V.int) us→∀ {ys:List Int} {vs:List Value},Vals (ys.map V.int) vs→∀j (h1:j<us.toArray.size) (h2:j<vs.toArray.size),SeqAt.EqAt A s us.toArray[j] vs.toArray[j] (xs.getD j 0==ys.getD j 0):=by
  intro xs us r1 ys vs r2 j h1 h2
  have l1:=r1.length
  have l2:=r2.length
  rw [List.length_map] at l1 l2
  rw [List.size_toArray] at h1 h2
  have g1:=Vals.getR r1 j (.int (xs.getD j 0)) us[j] (by rw [List.getElem?_map,List.getElem?_eq_getElem (by omega)];simp [List.getD,show j<xs.length by omega]) (List.getElem?_eq_getElem h1)
  have g2:=Vals.getR r2 j (.int (ys.getD j 0)) vs[j] (by rw [List.getElem?_map,List.getElem?_eq_getElem (by omega)];simp [List.getD,show j<ys.length by omega]) (List.getElem?_eq_getElem h2)
  obtain ⟨t1,e1⟩:=g1
  obtain ⟨t2,e2⟩:=g2
  rw [List.getElem_toArray,List.getElem_toArray,e1,e2]
  exact SeqAt.EqAt.int_int _ t1 _ t2
theorem yeo {xs ys:List Int}:((List.range (min xs.length ys.length)).all (fun j=>xs.getD j 0==ys.getD j 0)&&xs.length==ys.length)=decide (xs=ys):=by
  rw [Bool.eq_iff_iff,Bool.and_eq_true,List.all_eq_true,decide_eq_true_iff,beq_iff_eq]
  constructor
  · rintro ⟨h1,h2⟩
    refine List.ext_getElem h2 fun j a b=>?_
    have:=h1 j (List.mem_range.mpr (by omega))
    simpa [List.getD,a,b] using this
  · rintro rfl
    exact ⟨fun j _=>by simp,rfl⟩
theorem zdo:∀n:Nat,n<100→PyData.leavesShort 8 (.int (n:Int))=true∧PyData.weight (.int (n:Int))≤10:=by decide +kernel
end
end L2
end
section
-- text: ExtJ
set_option Elab.async false
set_option linter.all false
set_option maxRecDepth 100000
set_option maxHeartbeats 4000000
namespace L2
open PySem PySem.Spec PyProof.Rows
section
variable {X:Cx} {pos:Pos}
noncomputable def ygi (i j k:Nat) (ta:TA):TS:=fun D σ H=>ta σ H fun vs H1=>∃u v w,vs=[u,v,w]∧D.nx (((σ.set i (some u)).set j (some v)).set k (some w)) H1
theorem zfs {i j k:Nat} {x y z:Str} {a b c:Expr} {ta:TA} {px py pz pt:Pos} {kt k2 pt2} (hc:X.calm=true) (hN:X.N.Nodup) (hi:X.N[i]?=some x) (hj:X.N[j]?=some y) (hk:X.N[k]?=some z) (hij:i≠j∧i≠k∧j≠k)
    (hx:X.env.scope.names.lookup x=some .local) (hy:X.env.scope.names.lookup y=some .local) (hz:X.env.scope.names.lookup z=some .local) (ha:PA X [a,b,c] ta)
    (hw:swappedStores [.Tuple [.Name x px,.Name y py,.Name z pz] kt pt] (.Tuple [a,b,c] k2 pt2) X.env=pure (some [x,y,z]))
    (hs:swapsWithSole [.Tuple [.Name x px,.Name y py,.Name z pz] kt pt] (.Tuple [a,b,c] k2 pt2) pos.line X.env=pure false:=by rfl) :
    PS X (.Assign [.Tuple [.Name x px,.Name y py,.Name z pz] kt pt] (.Tuple [a,b,c] k2 pt2) pos) (ygi i j k ta):=by
  intro pins s σ H D I h
  rw [exec_Assign_arm]
  refine wpAny_bind (wpAny_standAt ?_)
  rw [hs]
  refine wpAny_bind (wpAny_pure ?_)
  rw [if_neg (by decide)]
  refine wpAny_bind (Tuple_ (thn (ha _ pins s σ H _ I h) fun us s1 ⟨vs,H1,I1,r1,q1⟩=>?_))
  obtain ⟨v1,v2,v3,e1,q1⟩:=q1
  subst e1
  obtain ⟨u1,u2,u3,rfl,r1',r2',r3'⟩:∃u1 u2 u3,us=[u1,u2,u3]∧RelV v1 u1∧RelV v2 u2∧RelV v3 u3:=by
    cases r1 with
    | cons p q =>
      cases q with
      | cons p' q' =>
        cases q' with
        | cons p'' q'' =>
          cases q''
          exact ⟨_,_,_,rfl,p,p',p''⟩
  refine wpAny_newObj_type ?_ (by show 3≤sizeLine;decide)
  have I2:Inv X pins σ H1 { s1 with heap:=s1.heap.push { cls:=.type "tuple",data:=.seq [u1,u2,u3].toArray } }:=I1.kept (t':=s1.toks) fun b o e=>Heap.get?_push_of_some _ e
  rw [hw]
  refine wpAny_bind (wpAny_pure ?_)
  show wpAny (model X.prog X.w) X.A (do rule "assign.swapped-stores";let items ←unpackItems (.ref s1.heap.objs.size) 3 none;assignInOrder [fun v=>bindName X.env z v,fun v=>bindName X.env y v,fun v=>bindName X.env x v] items.reverse;pure Flow.next) _ _ _
  refine wpAny_bind (wpAny_rule (wpAny_bind (unpackItems_tuple (items:=#[u1,u2,u3]) (I.ok.hd hc) (IsTup.new s1.heap _) fun h' hx'=>?_)))
  have I3:=I2.kept (h':=h') (t':=s1.toks) fun b o e=>hx' b o (Nat.ne_of_lt (Heap.lt_size e)) e
  show wpAny _ _ (assignInOrder [fun v=>bindName X.env z v,fun v=>bindName X.env y v,fun v=>bindName X.env x v] [u3,u2,u1] >>= fun _=>pure Flow.next) _ _ _
  refine wpAny_bind (assignInOrder_cons (wpAny_bindName (ya3 I3 hN hk (.inl hz) r3' (fun s2 I4=>?_) (.inr hz))))
  refine assignInOrder_cons (wpAny_bindName (ya3 I4 hN hj (.inl hy) r2' (fun s2 I5=>?_) (.inr hy)))
  refine assignInOrder_cons (wpAny_bindName (ya3 I5 hN hi (.inl hx) r1' (fun s3 I6=>assignInOrder_nil (wpAny_pure ?_)) (.inr hx)))
  have e:((σ.set k (some v3)).set j (some v2)).set i (some v1)=((σ.set i (some v1)).set j (some v2)).set k (some v3):=by
    rw [List.set_comm (some v3) (some v2) (Ne.symm hij.2.2),List.set_comm (some v3) (some v1) (Ne.symm hij.2.1),List.set_comm (some v2) (some v1) (Ne.symm hij.1)]
  rw [e] at I6
  exact ⟨_,H1,I6,q1⟩
section
variable {K:PySem.W.Frag}
theorem zcH (h:X.K=K):IxR X (rIxT K):=h ▸ yaw
theorem zdY (h:X.K=K):OpR X (compareOp .In) (rIn K false):=h ▸ ybY
end
end
end L2
end
section
-- text: ExtK
set_option Elab.async false
set_option linter.all false
set_option maxRecDepth 100000
set_option maxHeartbeats 4000000
namespace L2
open PySem PySem.Spec PyProof.Rows
open MeetsSeq MeetsSeq2 MeetsSeq3
section
variable {X:Cx}
end
end L2
end
section
-- text: ExtL
set_option Elab.async false
set_option linter.all false
set_option maxRecDepth 100000
set_option maxHeartbeats 4000000
namespace L2
open PySem PySem.Spec PyProof.Rows
section
variable {prog:Program} {w:World} {A:Around} {E:Value→Shared→Prop} {s:Shared}
end
section
variable {X:Cx}
end
end L2
end
section
-- text: ExtM
set_option Elab.async false
set_option linter.all false
set_option maxRecDepth 100000
set_option maxHeartbeats 4000000
namespace L2
open PySem PySem.Spec PyProof.Rows
theorem zcz:∀ {ns:List Int} {us:List Value},Vals (ns.map V.int) us→IntsAre us ns
  | [],[],_=>.nil
  | [],_::_,r=>by cases r
  | _::_,[],r=>by cases r
  | n::ns,u::us,.cons r t=>by
    obtain ⟨tk,rfl⟩:=r
    exact .cons n tk (zcz t)
theorem ybS:∀ {us:List Value} {ns:List Int},IntsAre us ns→Vals (ns.map V.int) us
  | _,_,.nil=>.nil
  | _,_,.cons n t h=>.cons ⟨t,rfl⟩ (ybS h)
section
variable {X:Cx}
end
end L2
end
section
-- text: ExtN
set_option Elab.async false
set_option linter.all false
set_option maxRecDepth 100000
set_option maxHeartbeats 4000000
namespace L2
open PySem PyProof.Rows
section
variable {X:Cx}
theorem ye5 {xs:List V} {us:List Value} (h:Vals xs us) {i:Nat} (hi:i<us.toArray.size):∃x,xs[i]?=some x∧RelV x us.toArray[i]:=by
  have hl:=h.length
  rw [List.size_toArray] at hi
  have hx:xs[i]?=some (xs[i]'(by omega)):=List.getElem?_eq_getElem (by omega)
  have hu:us[i]?=some (us[i]):=List.getElem?_eq_getElem hi
  exact ⟨_,hx,h.getR i _ _ hx hu⟩
end
end L2
end
section
-- text: ExtO
set_option Elab.async false
set_option linter.all false
set_option maxRecDepth 100000
set_option maxHeartbeats 4000000
namespace L2
open PySem PyProof.Rows
noncomputable def Rise (xs:Array Nat):Prop:=xs.toList.Pairwise (· < ·)
theorem ybX {xs:Array Nat} (h:Rise xs) {i j:Nat} (hij:i<j) (hj:j<xs.size):xs[i]'(by omega)<xs[j]:=by
  have:=List.pairwise_iff_getElem.mp h i j (by simpa using (by omega:i<xs.size)) (by simpa using hj) hij
  simpa using this
theorem ycD {xs:Array Nat} (h:Rise xs) (j:Nat):∀(fuel lo hi:Nat),hi-lo≤fuel→lo≤hi→hi≤xs.size→
    (∀i (hi':i<xs.size),i<lo→xs[i]<j)→(∀i (hi':i<xs.size),hi≤i→j≤xs[i])→
    SetTable.below.go xs j fuel lo hi≤xs.size∧(∀i (hi':i<xs.size),i<SetTable.below.go xs j fuel lo hi→xs[i]<j)∧(∀i (hi':i<xs.size),SetTable.below.go xs j fuel lo hi≤i→j≤xs[i])
  | 0,lo,hi,hf,hl,hs,h1,h2=>by
    have e:lo=hi:=by omega
    subst e
    exact ⟨hs,h1,h2⟩
  | fuel+1,lo,hi,hf,hl,hs,h1,h2=>by
    unfold SetTable.below.go
    by_cases c:lo<hi
    · rw [if_pos c]
      have hm:(lo+hi)/2<xs.size:=by omega
      have eg:xs.getD ((lo+hi)/2) j=xs[(lo+hi)/2]:=by simp [Array.getD,hm]
      dsimp only
      rw [eg]
      by_cases d:xs[(lo+hi)/2]<j
      · rw [if_pos d]
        refine ycD h j fuel _ _ (by omega) (by omega) hs (fun i hi' hlt=>?_) h2
        by_cases e:i=(lo+hi)/2
        · subst e;exact d
        · exact Nat.lt_trans (ybX h (by omega) hm) d
      · rw [if_neg d]
        refine ycD h j fuel _ _ (by omega) (by omega) (by omega) h1 fun i hi' hge=>?_
        by_cases e:i=(lo+hi)/2
        · subst e;omega
        · have:=ybX h (show (lo+hi)/2<i by omega) hi'
          omega
    · rw [if_neg c]
      have e:lo=hi:=by omega
      subst e
      exact ⟨hs,h1,h2⟩
theorem ybP {xs:Array Nat} (h:Rise xs) (j:Nat):SetTable.below xs j≤xs.size∧(∀i (hi':i<xs.size),i<SetTable.below xs j→xs[i]<j)∧(∀i (hi':i<xs.size),SetTable.below xs j≤i→j≤xs[i]) :=
  ycD h j xs.size 0 xs.size (by omega) (by omega) (Nat.le_refl _) (fun i _ hi=>absurd hi (Nat.not_lt_zero _)) (fun i hi' hge=>absurd hi' (by omega))
theorem ydk {xs:Array Nat} (h:Rise xs) {j:Nat} (hn:xs[SetTable.below xs j]?≠some j):Rise (SetTable.insertAt xs (SetTable.below xs j) j):=by
  obtain ⟨h1,h2,h3⟩:=ybP h j
  generalize SetTable.below xs j=r at *
  unfold Rise
  rw [SetTable.toList_insertAt]
  have hd:∀y∈xs.toList.drop r,j<y:=by
    intro y hy
    obtain ⟨i,hi,e⟩:=List.getElem_of_mem hy
    rw [List.getElem_drop] at e
    have hi2:r+i<xs.size:=by simp at hi;omega
    have e2:y=xs[r+i]:=by rw [←e];simp
    have h4:=h3 (r+i) hi2 (by omega)
    have h5:r<xs.size:=by omega
    have h6:=h3 r h5 (Nat.le_refl _)
    have h7:xs[r]≠j:=fun q=>hn (by rw [Array.getElem?_eq_getElem h5,q])
    by_cases c:i=0
    · subst c;rw [e2];simp only [Nat.add_zero];omega
    · have:=ybX h (show r<r+i by omega) hi2
      rw [e2];omega
  have ht:∀y∈xs.toList.take r,y<j:=by
    intro y hy
    obtain ⟨i,hi,e⟩:=List.getElem_of_mem hy
    rw [List.getElem_take] at e
    have hi2:i<xs.size:=by simp at hi;omega
    have e2:y=xs[i]:=by rw [←e];simp
    rw [e2]
    exact h2 i hi2 (by simp at hi;omega)
  refine List.pairwise_append.mpr ⟨List.Pairwise.sublist (List.take_sublist _ _) h,List.pairwise_cons.mpr ⟨hd,List.Pairwise.sublist (List.drop_sublist _ _) h⟩,fun a ha b hb=>?_⟩
  rcases List.mem_cons.mp hb with rfl|hb
  · exact ht a ha
  · exact Nat.lt_trans (ht a ha) (hd b hb)
theorem ycC {t:SetTable} {f:Nat→Int} {h:Int}:∀(fuel:Nat) (p:SetTable.Probe) {j:Nat} {d:Option Nat},(∀e,p.dummy=some e→t.slot e = .dummy)→SetTable.probe.go t f h fuel p=some (.empty j d)→t.slot j = .empty∧∀e,d=some e→t.slot e = .dummy
  | 0,p,j,d,_,e=>by cases e
  | fuel+1,p,j,d,hp,e=>by
    unfold SetTable.probe.go at e
    have adv:∀q:SetTable.Probe,(t.advance q).dummy=q.dummy:=fun q=>by unfold SetTable.advance;split <;> rfl
    cases hs:t.slot p.j with
    | empty=>rw [hs] at e;cases e;exact ⟨hs,hp⟩
    | dummy =>
      rw [hs] at e
      refine ycC fuel _ (fun x hx=>?_) e
      rw [adv] at hx;cases hx;exact hs
    | live i =>
      rw [hs] at e
      dsimp only at e
      split at e
      · cases e
      · refine ycC fuel _ (fun x hx=>?_) e
        rw [adv] at hx;exact hp x hx
theorem yd9 {t:SetTable} {h:Int} {j:Nat} {b:Bool} (e:t.freeSlot h=some (j,b)):∀i,t.slot j≠.live i:=by
  unfold SetTable.freeSlot at e
  split at e
  · rename_i j' d hm
    obtain ⟨h1,h2⟩:=ycC (t:=t) _ _ (fun e he=>by cases he) hm
    cases e
    intro i
    cases d with
    | none=>show t.slot j'≠_;rw [h1];exact fun q=>nomatch q
    | some d=>show t.slot d≠_;rw [h2 d rfl];exact fun q=>nomatch q
  · cases e
theorem zeK {t:SetTable} {j:Nat} (h:∀i,t.slot j≠.live i):t.place[SetTable.below t.place j]?≠some j:=fun e=>by
  refine h (SetTable.below t.place j) ?_
  unfold SetTable.slot
  dsimp only
  rw [if_pos (by rw [e];exact beq_self_eq_true _)]
structure TabG (led:Bool) (t:SetTable):Prop where
  led:t.led=led
  rise:t.plain=true→Rise t.place
theorem TabG.standIn {led:Bool} {t:SetTable} (h:TabG led t) (n:Nat):TabG led (t.standIn n):=⟨h.led,fun e=>by cases e⟩
theorem zeZ {led:Bool} {t:SetTable} (h:TabG led t) (es:Array (Int×Value)) (k:Int) (x:Value):TabG led (layNew t es k x).2.1:=by
  unfold layNew
  split
  · rename_i slot wasDummy he
    dsimp only
    have hp:TabG led (t.put slot).1:=by
      refine ⟨h.led,fun e=>?_⟩
      exact ydk (h.rise e) (zeK (yd9 he))
    unfold SetTable.orStandIn
    split
    · exact hp
    · exact hp.standIn _
  · exact h.standIn _
theorem ydU {led:Bool} {t:SetTable} (h:TabG led t) (es:Array (Int×Value)) (n:Nat):TabG led (relayAll t es n).2.1:=by
  unfold relayAll
  split
  · rename_i t' order he
    have ht:TabG led t':=by
      unfold SetTable.relaid SetTable.laid at he
      simp only [Option.bind_eq_bind,Option.bind_eq_some_iff] at he
      obtain ⟨owner,_,he⟩:=he
      cases he
      refine ⟨h.led,fun _=>?_⟩
      unfold Rise
      dsimp only
      rw [List.pairwise_map,List.pairwise_filterMap]
      refine List.Pairwise.imp ?_ List.pairwise_lt_range
      intro a b hab x hx y hy
      cases h1:owner.getD a none with
      | none=>rw [h1] at hx;cases hx
      | some u =>
        cases h2:owner.getD b none with
        | none=>rw [h2] at hy;cases hy
        | some v=>rw [h1] at hx;rw [h2] at hy;cases hx;cases hy;exact hab
    dsimp only
    split
    · exact ht
    · exact h.standIn _
  · exact h.standIn _
section
variable {prog:Program} {w:World} {A:Around} {E:Value→Shared→Prop} {s:Shared}
noncomputable abbrev zba (w:World):Bool:=w.params.followText "set-order"
noncomputable def SetG (w:World) (prog:Program) (h:Heap) (a:Addr) (S:Int→Bool) (n:Nat):Prop :=
  ∃o es ep t,h.get? a=some o∧o.ExactSet∧o.data = .set es ep t∧ElemsOf (intKind prog w) es.toList∧(∀k,S k=true↔∃e∈es.toList,(intKind prog w).is k e.2=true)
    ∧es.size<scanBound∧t.fits es.size=true∧es.size=n∧TabG (!zba w) t
theorem zc5 {h:Heap} {a:Addr} {o:Obj} {es:Array (Int×Value)} {ep:Nat} {t:SetTable} (ho:h.get? a=some o) (hd:o.data = .set es ep t) (es':Array (Int×Value)) (t':SetTable) :
    (h.update a (Obj.putSet es' t')).get? a=some { o with data:=.set es' (ep+1) t' }:=by
  have:=Heap.get?_update_self (Obj.putSet es' t') ho (by rw [putSet_of es' t' hd];rfl)
  rw [putSet_of es' t' hd] at this;exact this
theorem ygd {a:Addr} {S:Int→Bool} {n:Nat} {k:Int} {tk:Tok} {Q:Bool→Shared→Prop} (hS:SetG w prog s.heap a S n) (hroom:n+1<scanBound)
    (h:∀h' b,Heap.SameBut a s.heap h'→SetG w prog h' a (fun k'=>S k'||decide (k'=k)) (if S k then n else n+1)→Q b { s with heap:=h' }) :
    wpAny (model prog w) A (setAddHashed a (.int k tk) ((intKind prog w).hash k)) Q E s:=by
  obtain ⟨o,es,ep,t,ho,hex,hd,hel,hmem,hb,hf,hn,hG⟩:=hS
  have hkey:(intKind prog w).is k (.int k tk)=true:=intKind_is _ _ _ _
  have hsc:(Value.int k tk).scannable=true:=rfl
  unfold setAddHashed setAddHashedIn
  refine wpAny_holding (wpAny_bind (wpAny_setState_of ho hd hf ?_))
  dsimp only
  rw [byScan_of hsc hb hel,if_pos rfl]
  unfold setAddByScan
  refine wpAny_bind (wpAny_bind (wpAny_rule (wpAny_bind (wpAny_setScan_of hkey ho hd hf hel ?_))))
  cases hr:List.findIdx? (fun e=>(intKind prog w).is k e.2) es.toList with
  | some j =>
    obtain ⟨hj,hpj,_⟩:=List.findIdx?_eq_some_iff_getElem.mp hr
    have hSk:S k=true:=(hmem k).mpr ⟨es.toList[j],List.getElem_mem hj,hpj⟩
    refine wpAny_pure (wpAny_pure ?_)
    have h1:=h s.heap false (Heap.SameBut.refl a s.heap) ⟨o,es,ep,t,ho,hex,hd,hel,fun k'=>by
      rw [Bool.or_eq_true,decide_eq_true_eq,←hmem k']
      exact ⟨fun hk=>hk.elim id (fun e=>e ▸ hSk),.inl⟩,hb,hf,by rw [hSk];exact hn,hG⟩
    exact h1
  | none =>
    have hSk:S k=false:=by
      cases hk:S k with
      | false=>rfl
      | true =>
        obtain ⟨e,he,hp⟩:=(hmem k).mp hk
        have:=List.findIdx?_eq_none_iff.mp hr e he
        rw [hp] at this;cases this
    have hperm:=layNew_perm t es ((intKind prog w).hash k) (.int k tk)
    have hfits:=layNew_fits t es ((intKind prog w).hash k) (.int k tk)
    have hG1:=zeZ hG es ((intKind prog w).hash k) (.int k tk)
    dsimp only
    generalize layNew t es ((intKind prog w).hash k) (.int k tk)=L at hperm hfits hG1 ⊢
    obtain ⟨es1,t1,wasDummy,gave⟩:=L
    dsimp only at hperm hfits hG1 ⊢
    rw [Array.toList_push] at hperm
    have hel1:ElemsOf (intKind prog w) es1.toList:=(hel.push hkey hsc).perm hperm
    have hmem1:∀k',(S k'||decide (k'=k))=true↔∃e∈es1.toList,(intKind prog w).is k' e.2=true:=mem_push_iff hkey hmem hperm
    have hsz1:es1.size=n+1:=by rw [←Array.length_toList,hperm.length_eq,List.length_append,Array.length_toList,hn];rfl
    have hz:es1.size≤sizeLine:=fits_of_scanBound (by omega)
    have en:(if S k=true then n else n+1)=n+1:=by rw [hSk];rfl
    rw [en] at h
    have fin:∀t2:SetTable,TabG (!zba w) t2→t2.fits es1.size=true→wpAny (model prog w) A (storeSet a es1 t2 >>= fun _=>if (!wasDummy&&t2.tooFull)=true then
          (match (relayAll t2 es1 (SetTable.grown es1.size)).2.2 with|true=>rule "set.scan.the-table-gave-way"|false=>pure ()) >>= fun _=>storeSet a (relayAll t2 es1 (SetTable.grown es1.size)).1 (relayAll t2 es1 (SetTable.grown es1.size)).2.1 >>= fun _=>pure (some true)
        else pure (some true)) (fun r s'=>∃h',s'={ s with heap:=h' }∧r=some true∧Heap.SameBut a s.heap h'∧SetG w prog h' a (fun k'=>S k'||decide (k'=k)) (n+1)) E s:=by
      intro t2 g2 f2
      refine wpAny_bind (wpAny_storeSet_of ho hd ?_ hz)
      have o1:=zc5 ho hd es1 t2
      have b1:=Heap.SameBut.update s.heap a (Obj.putSet es1 t2)
      split
      · have hp:=relayAll_perm t2 es1 (SetTable.grown es1.size)
        have hfr:=relayAll_fits t2 es1 (SetTable.grown es1.size)
        have g3:=ydU g2 es1 (SetTable.grown es1.size)
        generalize relayAll t2 es1 (SetTable.grown es1.size)=Rl at hp hfr g3 ⊢
        obtain ⟨es2,t3,gave2⟩:=Rl
        dsimp only at hp hfr g3 ⊢
        have hsz:es2.size=es1.size:=by rw [←Array.length_toList,hp.length_eq,Array.length_toList]
        have rest:wpAny (model prog w) A (storeSet a es2 t3 >>= fun _=>pure (some true)) (fun r s'=>∃h',s'={ s with heap:=h' }∧r=some true∧Heap.SameBut a s.heap h'∧SetG w prog h' a (fun k'=>S k'||decide (k'=k)) (n+1)) E { s with heap:=s.heap.update a (Obj.putSet es1 t2) }:=by
          refine wpAny_bind (wpAny_storeSet_of o1 rfl ?_ (by omega))
          exact wpAny_pure ⟨_,rfl,rfl,b1.trans (Heap.SameBut.update _ a _),_,es2,_,t3,zc5 o1 rfl es2 t3,hex,rfl,hel1.perm hp,fun k'=>(hmem1 k').trans ⟨fun ⟨e,he,q⟩=>⟨e,hp.mem_iff.mpr he,q⟩,fun ⟨e,he,q⟩=>⟨e,hp.mem_iff.mp he,q⟩⟩,by omega,hfr,by omega,g3⟩
        cases gave2
        · exact wpAny_bind (wpAny_pure rest)
        · exact wpAny_bind (wpAny_rule rest)
      · exact wpAny_pure ⟨_,rfl,rfl,b1,_,es1,_,t2,o1,hex,rfl,hel1,hmem1,by omega,f2,hsz1,g2⟩
    have hgw:∀(b:Bool) {s₁:Shared} {Q':Unit→Shared→Prop},Q' () s₁→wpAny (model prog w) A (match b with|true=>rule "set.scan.the-table-gave-way"|false=>pure ()) Q' E s₁ :=
      fun b s₁ Q' hq=>by cases b <;> first|exact wpAny_pure hq|exact wpAny_rule hq
    refine wpAny_bind (hgw gave ?_)
    split
    · refine wpAny_bind ?_
      rw [hashByValue_scannable 8 hsc]
      refine wpAny_pure ?_
      refine thn (fin t1 hG1 hfits) fun r s' ⟨h',e1,e2,b,g⟩=>?_
      subst e1;subst e2
      exact wpAny_pure (h h' true b g)
    · refine wpAny_bind (wpAny_pure ?_)
      refine thn (fin t1 hG1 hfits) fun r s' ⟨h',e1,e2,b,g⟩=>?_
      subst e1;subst e2
      exact wpAny_pure (h h' true b g)
theorem SetG.at {h h':Heap} {a:Addr} {S:Int→Bool} {n:Nat} (x:SetG w prog h a S n) (e:∀o,h.get? a=some o→h'.get? a=some o):SetG w prog h' a S n:=by
  obtain ⟨o,es,ep,t,ho,r⟩:=x
  exact ⟨o,es,ep,t,e o ho,r⟩
theorem SetG.congr {h:Heap} {a:Addr} {S S':Int→Bool} {n n':Nat} (x:SetG w prog h a S n) (e:∀k,S k=S' k) (en:n=n'):SetG w prog h a S' n':=by
  have:S=S':=funext e
  subst this;subst en;exact x
section
variable {R:Result→Shared→Prop} {I:Addr} {fp wr:List Addr} {G:Array GenState→Array GenState→Prop} {n:Nat} {P:Nat→Value→Prop} {St:Nat→Shared→Prop}
theorem yfZ (W:WalksS prog w A.in1 I fp wr G n P St) (S:Addr) (hSf:S∉fp) (val:Nat→Int) (hval:∀i v,P i v→∃t,v = .int (val i) t) (hb:n+1<scanBound):∀(k i:Nat) (s:Shared),n-i=k→i≤n→St i s→
      SetG w prog s.heap S (fun k'=>(firstMet val i).any (·==k')) (firstMet val i).length→
      (∀s',Moved (S::wr) G s s'→SetG w prog s'.heap S (fun k'=>(firstMet val n).any (·==k')) (firstMet val n).length→R (.ok (.ret .none)) s')→
      codeAny (model prog w) A (.builtin "set.update.loop" ⟨[.ref S,.ref I],[]⟩) R s:=by
  have hSw:S∉wr:=fun h=>hSf (W.sub _ h)
  have hsub:∀b∈wr,b∈S::wr:=fun b hb=>List.mem_cons_of_mem _ hb
  intro k
  induction k with
  | zero =>
    intro i s hk hi hst hS hR
    obtain rfl:i=n:=by omega
    refine codeAny_builtin F.entry_set_update_loop ?_
    rw [Around.under_plainId F.plain_set_update_loop _]
    show wpAny _ A.in1 (pyNext (.ref I) >>= _) _ _ s
    refine wpAny_bind (W.done s _ _ hst fun s' hm=>?_)
    exact wpAny_pure (hR s' (hm.mono hsub) (hS.at fun o e=>hm.heap S o hSw e))
  | succ k ih =>
    intro i s hk hi hst hS hR
    have hlt:i<n:=by omega
    refine codeAny_builtin F.entry_set_update_loop ?_
    rw [Around.under_plainId F.plain_set_update_loop _]
    show wpAny _ A.in1 (pyNext (.ref I) >>= _) _ _ s
    refine wpAny_bind (W.item i s _ _ hlt hst fun v s' hP hst' hm=>?_)
    obtain ⟨t,rfl⟩:=hval i v hP
    have hS':=hS.at (h':=s'.heap) fun o e=>hm.heap S o hSw e
    show wpAny _ A.in1 (holding [Value.int (val i) t] (setAdd S (.int (val i) t)) >>= _) _ _ s'
    refine wpAny_bind (wpAny_holding ?_)
    unfold setAdd
    refine wpAny_holding (wpAny_bind ((intKind prog w).pyHash (k:=val i) (intKind_is _ _ _ _) ?_))
    have hroom:(firstMet val i).length+1<scanBound:=by have:=firstMet_length_le val i;omega
    refine ygd (s:={ s' with toks:=s'.toks+1 }) hS' hroom fun h' b hsb hS2=>?_
    have hSi:SetG w prog h' S (fun k'=>(firstMet val (i+1)).any (·==k')) (firstMet val (i+1)).length:=hS2.congr (fun k'=>by rw [firstMet_succ,step_any]) (by rw [firstMet_succ,step_length])
    refine wpAny_pure ⟨plainId_quiet F.plain_set_update_loop _,ih (i+1) _ (by omega) hlt (W.frame _ s' _ _ hst' (Nat.le_succ _) fun b hb o e=>?_) hSi fun s'' hm'' hS''=>?_⟩
    · rw [hsb.2 b (fun h:b=S=>hSf (by rw [←h];exact hb))];exact e
    · refine hR s'' (Moved.trans W.gtrans ((hm.mono hsub).then_heap (Nat.le_succ _) fun b o hb e=>?_) hm'') hS''
      rw [hsb.2 b (fun h:b=S=>hb (by rw [h];exact List.mem_cons_self))];exact e
end
noncomputable abbrev ybd (w:World):Obj:={ cls:=.type "set",dict:=none,data:=.set #[] 0 (.fresh 0 0 (!zba w)) }
theorem yeM {h:Heap} {a:Addr} (e:h.get? a=some (ybd w)):SetG w prog h a (fun _=>false) 0 :=
  ⟨_,#[],0,_,e,⟨rfl,rfl,rfl⟩,rfl,fun e he=>by simp at he,fun k=>by simp,by decide,by rfl,rfl,⟨rfl,fun _=>List.Pairwise.nil⟩⟩
theorem zeM (a:Value) {Q₁:Value→Shared→Prop} (h:Q₁ (.ref s.heap.objs.size) { s with heap:=s.heap.push (ybd w) }) :
    codeAny (model prog w) A (.call (.builtin "set.__new__") ⟨[.type "set",a],[]⟩) (wants Q₁ E) s:=by
  refine codeAny_of_tree ?_
  show wpAny _ A.in1 (do checkBuiltinCall "set.__new__" ⟨[.type "set",a],[]⟩;again (.builtin "set.__new__" ⟨[.type "set",a],[]⟩)) _ _ s
  refine wpAny_bind (wpAny_of_eq (F.newCall_set_1 a) (wpAny_pure ⟨plainId_quiet F.plain_set_new _,codeAny_builtin F.entry_set_new ?_⟩))
  rw [Around.under_plainId F.plain_set_new _]
  unfold Builtin.«set.__new__» Builtin.Frozenset.newClass
  have hsub:=sub_set_self
  obtain ⟨hp,g,d,tk,os⟩:=s
  dsimp only
  wp_walk
  refine wpAny_askSetting (wpAny_pure ?_)
  dsimp only
  simp only [newObj]
  refine wpAny_bind (wpAny_alloc (wpAny_pure ?_))
  exact wpAny_pure h
set_option maxHeartbeats 8000000 in
theorem yd0 {l:Addr} {items:Array Value} {ns:List Int} {Q:Value→Shared→Prop} (hh:A.handled=none) (hl:s.heap.IsList l items) (hi:IntsAre items.toList ns) (hb:items.size+1<scanBound)
    (h:∀(h':Heap) (tk:Nat),SetG w prog h' s.heap.objs.size (fun k'=>(firstMet (fun i=>ns.getD i 0) items.size).any (·==k')) (firstMet (fun i=>ns.getD i 0) items.size).length→
      (∀b o,s.heap.get? b=some o→h'.get? b=some o)→Q (.ref s.heap.objs.size) { s with heap:=h',toks:=tk }) :
    wpAny (model prog w) A (call (.type "set") [.ref l]) Q E s:=by
  obtain ⟨c,tl,hmro⟩:=F.called_set.mro
  have hmade:=F.called_set.made
  have hsub:=F.called_set.sub
  refine wpAny_call (codeAny_of_tree ?_)
  show wpAny _ _ (callAny (.type "set") _) _ _ _
  refine wpAny_pure ⟨Code.quiet_builtin _ (by decide +kernel),codeAny_builtin F.entry_type_call ?_⟩
  rw [Around.under_plain (weight_type_call_type "set" [.ref l] []) rfl]
  have h1:=F.called_set.notType
  have h2:=F.called_set.canCreate
  have hct:=F.typeCall_set_1 (.ref l)
  repeat (any_goals (first|assumption|wp_step))
  refine codeAny_mono (zeM (.ref l) (E:=E) (Q₁:=fun obj s₁=>obj = .ref s.heap.objs.size∧s₁={ s with heap:=s.heap.push (ybd w) }) ⟨rfl,rfl⟩) fun r s₁ hr=>?_
  cases r with
  | error e=>exact hr
  | ok fl =>
    cases fl with
    | ret obj =>
      obtain ⟨rfl,rfl⟩:=hr
      have hS:(s.heap.push (ybd w)).get? s.heap.objs.size=some (ybd w):=Heap.get?_push_size _ rfl
      have hT:Shared.TypeIs { s with heap:=s.heap.push (ybd w) } (.ref s.heap.objs.size) "set":=⟨_,hS,rfl⟩
      have hli:=F.called_set.init.lookup
      have hbi:=F.called_set.init.bind (.ref s.heap.objs.size)
      repeat (any_goals (first|assumption|wp_step))
      refine codeAny_mono (codeAny_call_builtin (R:=wants (fun r s₂=>r = .none∧∃h' tk,s₂={ s with heap:=h',toks:=tk }∧
          SetG w prog h' s.heap.objs.size (fun k'=>(firstMet (fun i=>ns.getD i 0) items.size).any (·==k')) (firstMet (fun i=>ns.getD i 0) items.size).length∧
          (∀b o,s.heap.get? b=some o→h'.get? b=some o)) E) F.called_set.init.plain F.entry_set_init (check_set_init_1 hT ?_)) fun r₂ s₂ hr₂=>?_
      · obtain ⟨ol,hol,hcl,nl,hdl⟩:=hl
        obtain ⟨ocls,odict,odata,oslots⟩:=ol
        simp only at hcl hdl
        subst hcl;subst hdl
        have hol':(s.heap.push (ybd w)).get? l=some { cls:=.type "list",dict:=odict,data:=.seq items nl,slots:=oslots }:=Heap.get?_push_of_some _ hol
        have hsls:=F.sub_list_set
        have hslf:=F.sub_list_frozenset
        have hne:(Value.type "list"==Value.type "dict")=false:=by decide
        have hl1:(s.heap.push (ybd w)).IsList l items:=⟨_,hol',rfl,nl,rfl⟩
        unfold Builtin.«set.__init__» noKeywords Builtin.Frozenset.updateFrom
        generalize hPI:pyIter=PI
        wp_walk
        subst hPI
        refine wpAny_pyIter_list hl1 ?_
        refine wpAny_bind (wpAny_runValue ?_)
        have hlS:l<s.heap.objs.size:=Heap.lt_size hol
        have hneI:l≠(s.heap.push (ybd w)).objs.size:=by rw [Heap.size_push];exact Nat.ne_of_lt (Nat.lt_succ_of_lt hlS)
        have hSf:s.heap.objs.size∉[(s.heap.push (ybd w)).objs.size,l]:=by
          rw [Heap.size_push];simp only [List.mem_cons,List.not_mem_nil,or_false,not_or]
          exact ⟨Nat.ne_of_lt (Nat.lt_succ_self _),Nat.ne_of_gt hlS⟩
        refine yfZ ((Walks.list (by simp [hh]) _ l hneI items).toS) s.heap.objs.size hSf (fun i=>ns.getD i 0) (fun i v hv=>IntsAre.int_at hi i v (by rw [Array.getElem?_toList];exact hv)) hb (items.size-0) 0 _ (by omega) (Nat.zero_le _)
          ⟨⟨_,Heap.get?_push_size _ rfl,rfl,rfl⟩,(hl1.push _)⟩ ((yeM (Heap.get?_push_of_some _ hS)).congr (fun _=>rfl) rfl) fun s' hm hS'=>?_
        obtain ⟨h',g',d',tk',os'⟩:=s'
        obtain rfl:g'=s.gens:=hm.gens
        obtain rfl:d'=s.drawn:=hm.drawn
        obtain rfl:os'=s.os:=hm.os
        show wpAny _ _ _ _ _ _
        refine wpAny_pure ?_
        show wpAny _ _ (ret Value.none) _ _ _
        refine wpAny_pure ⟨rfl,h',tk',rfl,hS',fun b o e=>?_⟩
        have hb:=Heap.lt_size e
        refine hm.heap b o ?_ (Heap.get?_push_of_some _ (Heap.get?_push_of_some _ e))
        simp only [List.mem_cons,List.not_mem_nil,or_false,not_or]
        rw [Heap.size_push]
        exact ⟨Nat.ne_of_lt hb,Nat.ne_of_lt (Nat.lt_succ_of_lt hb)⟩
      · cases r₂ with
        | error e=>exact hr₂
        | ok fl₂ =>
          cases fl₂ with
          | ret r =>
            obtain ⟨rfl,h',tk,rfl,hS',hk'⟩:=hr₂
            repeat (any_goals (first|assumption|wp_step))
            exact h _ _ hS' hk'
          | _=>exact hr₂.elim
    | _=>exact hr.elim
end
end L2
end
section
-- text: ExtP
set_option Elab.async false
set_option linter.all false
set_option maxRecDepth 100000
set_option maxHeartbeats 4000000
namespace L2
open PySem PyProof.Rows
theorem ybb:Manifest.owners.lookup (String.ofList ['r','o','t','a','r','e','t','i','_','t','e','s'].reverse)=some Manifest.sig_set_iterator:=by kernel_rfl
theorem zaq:Slot "set_iterator" "__next__" "set_iterator.__next__" :=
  .of (owner:="set_iterator") (n:="__next__") (by rw [typeLookup_type,builtinLookup_eq_fast];kernel_rfl) (by decide +kernel) (by decide +kernel) (by decide +kernel)
    (by first|exact .inl (by decide +kernel)|exact .inr (by decide +kernel)) (by rw [isSubtype_type];kernel_rfl)
theorem za3:entryFor table "set_iterator.__next__"=some Builtin.«set_iterator.__next__»:=entryFor_of_tree (by kernel_rfl)
theorem yaX (a:Value):argsOk "set_iterator.__next__" ⟨[a],[]⟩:=by
  unfold argsOk;rw [signature?_of (id:="set_iterator.__next__") (n:=['_','_','t','x','e','n','_','_']) (o:=['r','o','t','a','r','e','t','i','_','t','e','s']) (by kernel_rfl) ybb];kernel_rfl
theorem ycf:entryFor table "set.__iter__"=some Builtin.«frozenset.__iter__» :=
  entryFor_alias (id':="frozenset.__iter__") (by kernel_rfl) (by first|rfl|decide +kernel|(unfold String.splitOn;simp +decide [String.splitOnAux])) (by decide +kernel) (by kernel_rfl)
noncomputable def IsSI (h:Heap) (I S:Addr) (first:Value) (i n ep:Nat):Prop:=∃o,h.get? I=some o∧o.cls = .type "set_iterator"∧o.data = .fields #[first,rawInt i,.ref S,rawInt n,rawInt ep]
theorem IsSI.at {h h':Heap} {I S:Addr} {first:Value} {i n ep:Nat} (x:IsSI h I S first i n ep) (e:∀o,h.get? I=some o→h'.get? I=some o):IsSI h' I S first i n ep:=let ⟨o,ho,r⟩:=x;⟨o,e _ ho,r⟩
noncomputable def zbW (h:Heap) (S:Addr) (es:Array (Int×Value)) (ep:Nat) (t:SetTable):Prop:=∃o,h.get? S=some o∧o.data = .set es ep t∧t.fits es.size=true
theorem zbW.at {h h':Heap} {S:Addr} {es:Array (Int×Value)} {ep:Nat} {t:SetTable} (x:zbW h S es ep t) (e:∀o,h.get? S=some o→h'.get? S=some o):zbW h' S es ep t:=let ⟨o,ho,r⟩:=x;⟨o,e _ ho,r⟩
section
variable {prog:Program} {w:World} {A:Around} {E:Value→Shared→Prop} {s:Shared}
theorem IsSI.typeIs {I S:Addr} {first:Value} {i n ep:Nat} (x:IsSI s.heap I S first i n ep):s.TypeIs (.ref I) "set_iterator":=let ⟨o,ho,hc,_⟩:=x;⟨o,ho,hc⟩
noncomputable def yeT (prog:Program) (w:World) (s:Shared) (S:Addr) (slot i ep:Nat) (r:Option (Value×Nat)):Prop:=∀(A:Around) (E:Value→Shared→Prop) (Q:Option (Value×Nat)→Shared→Prop),Q r s→wpAny (model prog w) A (setNext S slot i ep) Q E s
theorem yen {I S:Addr} {slot i ep nx:Nat} {es:Array (Int×Value)} {t:SetTable} {x:Value} {Q:Option Value→Shared→Prop} (hit:IsSI s.heap I S (rawInt slot) i es.size ep) (hs:zbW s.heap S es ep t) (hT:yeT prog w s S slot i ep (some (x,nx)))
    (hQ:∀h',IsSI h' I S (rawInt nx) (i+1) es.size ep→Heap.SameBut I s.heap h'→Q (some x) { s with heap:=h' }):wpAny (model prog w) A (pyNext (.ref I)) Q E s:=by
  obtain ⟨o,ho,hc,hd⟩:=id hit
  obtain ⟨os,hos,hds,hf⟩:=id hs
  unfold pyNext
  refine wpAny_bind (wpAny_attempt (wpAny_callSpecial?_slot (name:=Str.ofString "__next__") hit.typeIs zaq
    (wpAny_call_entry zaq hit.typeIs za3 ?_ (yaX _))))
  unfold Builtin.«set_iterator.__next__»
  refine wpAny_bind (wpAny_of_eq (a:=(Value.ref I,[])) rfl ?_)
  try dsimp only
  refine wpAny_bind (wpAny_fieldsOf ho hd ?_)
  simp only [rawInt]
  refine wpAny_bind (wpAny_setEntries_of hos hds hf ?_)
  refine wpAny_ite_split (fun h=>absurd h (by simp)) (fun _=>?_)
  refine wpAny_bind (hT _ _ _ ?_)
  dsimp only
  refine wpAny_bind (wpAny_setField ho hd (by simp) ?_)
  have h1:=Heap.get?_update_self (Obj.mapFields (fun vs=>vs.setIfInBounds 0 (Value.int nx 0))) ho (Obj.isFreed_of_fields (Obj.data_mapFields hd _))
  refine wpAny_bind (wpAny_setField h1 (Obj.data_mapFields hd _) (by simp) ?_)
  refine wpAny_pure ⟨x,rfl,wpAny_pure (hQ _ ?_ ((Heap.SameBut.update ..).trans (Heap.SameBut.update ..)))⟩
  exact ⟨_,Heap.get?_update_self _ h1 (Obj.isFreed_of_fields (Obj.data_mapFields (Obj.data_mapFields hd _) _)),(Obj.cls_mapFields ..).trans ((Obj.cls_mapFields ..).trans hc),by rw [Obj.data_mapFields (Obj.data_mapFields hd _)];simp [rawInt]⟩
theorem yew {I:Addr} {Q:Option Value→Shared→Prop} (hh:A.handled=none) {s1:Shared} (hQ:∀h' tk,(∀b o,s1.heap.get? b=some o→h'.get? b=some o)→Q none { s1 with heap:=h',toks:=tk }) :
    wpAny (model prog w) A.in1 (newExc (.type "StopIteration") [] >>= fun e=>raiseNew e) (fun fin s'=>∃v,fin=Fin.done (Flow.ret v)∧wpAny (model prog w) A (pure (some v)) Q E s')
      (fun e s'=>wpAny (model prog w) A (do if (←isInstance e (.type "StopIteration"))=true then pure none else throw e) Q E s') s1:=by
  refine wpAny_bind ?_
  simp only [newExc,newTuple]
  refine wpAny_bind (wpAny_newObj_type ?_ (by size_fits))
  refine wpAny_bind (m:=firstArgMember _ _) (wpAny_of_eq (a:=Value.none) (by first|rfl|(simp only [firstArgMember];rfl)) ?_)
  refine wpAny_newObj_type ?_ (by size_fits)
  simp only [raiseNew]
  refine wpAny_bind (wpAny_handled ?_)
  first|rw [show A.in1.handled=none from hh]|rw [hh]
  refine wpAny_bind (wpAny_pure (wpAny_throw ?_))
  refine wpAny_bind (wpAny_isInstance (T:="StopIteration") (b:=true) ⟨_,Heap.get?_push_size _ rfl,rfl⟩ isSubtype_stop ?_)
  exact wpAny_pure (hQ _ _ fun b o' e=>Heap.get?_push_of_some _ (Heap.get?_push_of_some _ e))
theorem yfi {I S:Addr} {slot i ep:Nat} {es:Array (Int×Value)} {t:SetTable} {Q:Option Value→Shared→Prop} (hh:A.handled=none) (hit:IsSI s.heap I S (rawInt slot) i es.size ep) (hs:zbW s.heap S es ep t) (hT:yeT prog w s S slot i ep none)
    (hQ:∀h' tk,Heap.ExtBut I s.heap h'→Q none { s with heap:=h',toks:=tk }):wpAny (model prog w) A (pyNext (.ref I)) Q E s:=by
  obtain ⟨o,ho,hc,hd⟩:=id hit
  obtain ⟨os,hos,hds,hf⟩:=id hs
  unfold pyNext
  refine wpAny_bind (wpAny_attempt (wpAny_callSpecial?_slot (name:=Str.ofString "__next__") hit.typeIs zaq
    (wpAny_call_entry zaq hit.typeIs za3 ?_ (yaX _))))
  unfold Builtin.«set_iterator.__next__»
  refine wpAny_bind (wpAny_of_eq (a:=(Value.ref I,[])) rfl ?_)
  try dsimp only
  refine wpAny_bind (wpAny_fieldsOf ho hd ?_)
  simp only [rawInt]
  refine wpAny_bind (wpAny_setEntries_of hos hds hf ?_)
  refine wpAny_ite_split (fun h=>absurd h (by simp)) (fun _=>?_)
  refine wpAny_bind (hT _ _ _ ?_)
  dsimp only
  refine wpAny_bind (wpAny_setField ho hd (by simp) ?_)
  refine yew (I:=I) hh fun h' tk k=>hQ h' tk fun b o' hb e=>k b o' ((Heap.get?_update_other _ _ (Ne.symm hb)).trans e)
theorem yfI {I S T:Addr} {i ep pl:Nat} {es:Array (Int×Value)} {t:SetTable} {places:Array Value} {kx:Int×Value} {tk:Tok} {Q:Option Value→Shared→Prop} (hit:IsSI s.heap I S (.ref T) i es.size ep) (hs:zbW s.heap S es ep t) (ht:s.heap.IsTuple T places)
    (hp:places[i]?=some (.int pl tk)) (hx:es[pl]?=some kx)
    (hQ:∀h',IsSI h' I S (.ref T) (i+1) es.size ep→Heap.SameBut I s.heap h'→Q (some kx.2) { s with heap:=h' }):wpAny (model prog w) A (pyNext (.ref I)) Q E s:=by
  obtain ⟨o,ho,hc,hd⟩:=id hit
  obtain ⟨os,hos,hds,hf⟩:=id hs
  obtain ⟨ot,hot,hct,nt,hdt⟩:=id ht
  unfold pyNext
  refine wpAny_bind (wpAny_attempt (wpAny_callSpecial?_slot (name:=Str.ofString "__next__") hit.typeIs zaq
    (wpAny_call_entry zaq hit.typeIs za3 ?_ (yaX _))))
  unfold Builtin.«set_iterator.__next__»
  refine wpAny_bind (wpAny_of_eq (a:=(Value.ref I,[])) rfl ?_)
  try dsimp only
  refine wpAny_bind (wpAny_fieldsOf ho hd ?_)
  simp only [rawInt]
  refine wpAny_bind (wpAny_setEntries_of hos hds hf ?_)
  refine wpAny_ite_split (fun h=>absurd h (by simp)) (fun _=>?_)
  unfold seqItems?
  refine wpAny_bind (wpAny_bind (wpAny_load hot ?_))
  rw [hdt]
  refine wpAny_pure ?_
  dsimp only
  rw [Int.toNat_natCast,hp]
  dsimp only
  unfold setNextDrawn
  refine wpAny_bind (wpAny_bind (wpAny_setState_of hos hds hf ?_))
  dsimp only
  refine wpAny_ite_split (fun h=>absurd h (by simp)) (fun _=>?_)
  rw [Int.toNat_natCast,hx]
  obtain ⟨k0,x⟩:=kx
  refine wpAny_pure ?_
  refine wpAny_bind (wpAny_setField ho hd (by simp) ?_)
  refine wpAny_pure ⟨x,rfl,wpAny_pure (hQ _ ?_ (Heap.SameBut.update ..))⟩
  exact ⟨_,Heap.get?_update_self _ ho (Obj.isFreed_of_fields (Obj.data_mapFields hd _)),(Obj.cls_mapFields ..).trans hc,by rw [Obj.data_mapFields hd];simp [rawInt]⟩
theorem zfT {I S T:Addr} {i ep:Nat} {es:Array (Int×Value)} {t:SetTable} {places:Array Value} {Q:Option Value→Shared→Prop} (hh:A.handled=none) (hit:IsSI s.heap I S (.ref T) i es.size ep) (hs:zbW s.heap S es ep t) (ht:s.heap.IsTuple T places)
    (hp:places[i]?=none) (hQ:∀h' tk,Heap.ExtBut I s.heap h'→Q none { s with heap:=h',toks:=tk }):wpAny (model prog w) A (pyNext (.ref I)) Q E s:=by
  obtain ⟨o,ho,hc,hd⟩:=id hit
  obtain ⟨os,hos,hds,hf⟩:=id hs
  obtain ⟨ot,hot,hct,nt,hdt⟩:=id ht
  unfold pyNext
  refine wpAny_bind (wpAny_attempt (wpAny_callSpecial?_slot (name:=Str.ofString "__next__") hit.typeIs zaq
    (wpAny_call_entry zaq hit.typeIs za3 ?_ (yaX _))))
  unfold Builtin.«set_iterator.__next__»
  refine wpAny_bind (wpAny_of_eq (a:=(Value.ref I,[])) rfl ?_)
  try dsimp only
  refine wpAny_bind (wpAny_fieldsOf ho hd ?_)
  simp only [rawInt]
  refine wpAny_bind (wpAny_setEntries_of hos hds hf ?_)
  refine wpAny_ite_split (fun h=>absurd h (by simp)) (fun _=>?_)
  unfold seqItems?
  refine wpAny_bind (wpAny_bind (wpAny_load hot ?_))
  rw [hdt]
  refine wpAny_pure ?_
  dsimp only
  rw [Int.toNat_natCast,hp]
  dsimp only
  refine wpAny_bind (wpAny_setField ho hd (by simp) ?_)
  have h1:=Heap.get?_update_self (Obj.mapFields (fun vs=>vs.setIfInBounds 0 (Value.int 0 0))) ho (Obj.isFreed_of_fields (Obj.data_mapFields hd _))
  refine wpAny_bind (wpAny_setField h1 (Obj.data_mapFields hd _) (by simp) ?_)
  refine yew (I:=I) hh fun h' tk k=>hQ h' tk fun b o' hb e=>k b o' ((Heap.get?_update_other _ _ (Ne.symm hb)).trans ((Heap.get?_update_other _ _ (Ne.symm hb)).trans e))
theorem ycq {S:Addr} {es:Array (Int×Value)} {ep:Nat} {t:SetTable} (hs:zbW s.heap S es ep t) (hb:zba w=true) (slot i:Nat):yeT prog w s S slot i ep (((pickOrder (w.params.setOrder S ep) es)[i]?).map fun e=>(e.2,slot)):=by
  intro A E Q hQ
  obtain ⟨os,hos,hds,hf⟩:=id hs
  unfold setNext setWalk setsByText
  refine wpAny_bind (wpAny_setState_of hos hds hf ?_)
  dsimp only
  refine wpAny_bind (wpAny_bind (wpAny_askSetting (wpAny_pure ?_)))
  refine wpAny_ite_split (fun _=>?_) (fun h=>absurd hb h)
  refine wpAny_ite_split (fun h=>absurd h (by simp)) (fun _=>?_)
  refine wpAny_bind (wpAny_bind (wpAny_setState_of hos hds hf ?_))
  dsimp only
  refine wpAny_bind (wpAny_bind (wpAny_askSetting (wpAny_pure ?_)))
  refine wpAny_ite_split (fun _=>?_) (fun h=>absurd hb h)
  refine wpAny_bind (wpAny_askSetting ?_)
  exact wpAny_pure (wpAny_pure hQ)
theorem zb9 {S:Addr} {es:Array (Int×Value)} {ep:Nat} {t:SetTable} (hs:zbW s.heap S es ep t) (hb:zba w=false) (hl:t.led=true) (hp:t.plain=true∨es.size≤1) (slot i:Nat) :
    yeT prog w s S slot i ep (match es[SetTable.below t.place slot]?,t.place[SetTable.below t.place slot]? with|some (_,x),some j=>some (x,j+1)|_,_=>none):=by
  intro A E Q hQ
  obtain ⟨os,hos,hds,hf⟩:=id hs
  unfold setNext setsByText
  refine wpAny_bind (wpAny_setState_of hos hds hf ?_)
  dsimp only
  refine wpAny_bind (wpAny_bind (wpAny_askSetting (wpAny_pure ?_)))
  refine wpAny_ite_split (fun h=>absurd (show zba w=true from h) (by rw [hb];decide)) (fun _=>?_)
  refine wpAny_ite_split (fun h=>?_) (fun _=>?_)
  · have h':(!t.plain&&decide (es.size>1))=true:=h
    simp only [Bool.and_eq_true,Bool.not_eq_true',decide_eq_true_eq] at h'
    rcases hp with hp|hp
    · rw [hp] at h';exact absurd h'.1 (by decide)
    · omega
  refine wpAny_bind ?_
  show wpAny _ _ (if (!t.led&&!es.isEmpty)=true then unsupported "set:maker-not-led" else pure ()) _ _ _
  refine wpAny_ite_split (fun h=>absurd h (by rw [hl];simp)) (fun _=>?_)
  refine wpAny_pure ?_
  exact wpAny_pure hQ
end
end L2
end
section
-- text: ExtQ
set_option Elab.async false
set_option linter.all false
set_option maxRecDepth 100000
set_option maxHeartbeats 4000000
namespace L2
open PySem PyProof.Rows
section
variable {prog:Program} {w:World} {A:Around} {E:Value→Shared→Prop} {s:Shared}
theorem ybO {α:Type}:∀(l:List α) (i:Nat) (h:i<l.length),(l[i]::l.eraseIdx i).Perm l
  | [],i,h=>absurd h (Nat.not_lt_zero _)
  | x::l,0,h=>List.Perm.refl _
  | x::l,i+1,h=>by
    show (l[i]'(by simpa using h)::x::l.eraseIdx i).Perm (x::l)
    exact (List.Perm.swap _ _ _).trans (List.Perm.cons _ (ybO l i (by simpa using h)))
theorem yer {α:Type} (f:Nat→Nat):∀(n k:Nat) (l:List α) (out:Array α),l.length=n→(pickOrder.go f n k l out).toList.Perm (out.toList++l)
  | 0,k,l,out,h=>by
    have:l=[]:=List.length_eq_zero_iff.mp h
    subst this
    unfold pickOrder.go
    rw [List.append_nil]
  | n+1,k,l,out,h=>by
    have hi:f k%l.length<l.length:=Nat.mod_lt _ (by omega)
    unfold pickOrder.go
    rw [List.getElem?_eq_getElem hi]
    dsimp only
    have ih:=yer f n (k+1) (l.eraseIdx (f k%l.length)) (out.push l[f k%l.length]) (by rw [List.length_eraseIdx_of_lt hi];omega)
    refine ih.trans ?_
    rw [Array.toList_push,List.append_assoc]
    exact List.Perm.append_left _ (ybO _ _ hi)
theorem zb3 {α:Type} (f:Nat→Nat) (xs:Array α):(pickOrder f xs).toList.Perm xs.toList:=by
  have:=yer f xs.size 0 xs.toList #[] (by simp)
  simpa [pickOrder] using this
theorem ycM {src:Source} {n:Nat} {Q:Nat→Shared→Prop} {M:Model} (hn:n≠0) (h:∀x d',x<n→Q x { s with drawn:=d' }):wpAny M A (choose src n) Q E s:=fun _ _ _=>⟨hn,h _ _ (Nat.mod_lt _ (by omega))⟩
theorem yc8 {α:Type} {M:Model}:∀(n:Nat) (xs:List α) (s:Shared) (Q:List α→Shared→Prop),xs.length=n→(∀r d',r.Perm xs→Q r { s with drawn:=d' })→wpAny M A (drawOrder n xs) Q E s
  | 0,xs,s,Q,h,hQ=>by
    have:xs=[]:=List.length_eq_zero_iff.mp h
    subst this
    unfold drawOrder
    exact wpAny_pure (hQ [] s.drawn .nil)
  | n+1,xs,s,Q,h,hQ=>by
    cases xs with
    | nil=>cases h
    | cons y ys =>
      unfold drawOrder
      refine wpAny_bind (ycM (by simp) fun i d' hi=>?_)
      rw [List.getElem?_eq_getElem hi]
      dsimp only
      refine wpAny_bind (yc8 n _ _ _ (by rw [List.length_eraseIdx_of_lt hi];simp at h;simp;omega) fun r d2 hr=>?_)
      exact wpAny_pure (hQ _ d2 ((List.Perm.cons _ hr).trans (ybO _ _ hi)))
noncomputable abbrev GE:Array GenState→Array GenState→Prop:=fun a b=>b=a
theorem zbV:Slot "set_iterator" "__iter__" "set_iterator.__iter__" :=
  .of (owner:="set_iterator") (n:="__iter__") (by rw [typeLookup_type,builtinLookup_eq_fast];kernel_rfl) (by decide +kernel) (by decide +kernel) (by decide +kernel)
    (by first|exact .inl (by decide +kernel)|exact .inr (by decide +kernel)) (by rw [isSubtype_type];kernel_rfl)
theorem zce (a:Value):argsOk "set_iterator.__iter__" ⟨[a],[]⟩:=by
  unfold argsOk;rw [signature?_of (id:="set_iterator.__iter__") (n:=['_','_','r','e','t','i','_','_']) (o:=['r','o','t','a','r','e','t','i','_','t','e','s']) (by kernel_rfl) ybb];kernel_rfl
theorem zcK:entryFor table "set_iterator.__iter__"=some Builtin.«dict_keyiterator.__iter__» :=
  entryFor_alias (id':="dict_keyiterator.__iter__") (by kernel_rfl) (by first|rfl|decide +kernel|(unfold String.splitOn;simp +decide [String.splitOnAux])) (by decide +kernel) (by kernel_rfl)
theorem zbZ {I S:Addr} {first:Value} {i n ep:Nat} {Q:Value→Shared→Prop} (hit:IsSI s.heap I S first i n ep) (h:Q (.ref I) s):wpAny (model prog w) A (pyIter (.ref I)) Q E s:=by
  refine wpAny_pyIter_slot hit.typeIs zbV (wpAny_call_entry zbV hit.typeIs zcK ?_ (zce _))
  show wpAny _ _ (ret (.ref I)) _ _ s
  exact wpAny_pure ⟨_,rfl,"set_iterator",_,hit.typeIs,zaq.lookup,h⟩
theorem yeI {I S:Addr} {es:Array (Int×Value)} {ep:Nat} {t:SetTable} (hh:A.handled=none) (hne:S≠I) (hb:zba w=true) :
    WalksS prog w A I [I,S] [I] GE es.size (fun i v=>((pickOrder (w.params.setOrder S ep) es).toList.map (·.2))[i]?=some v) (fun i s=>IsSI s.heap I S (rawInt ((0:Nat):Int)) i es.size ep∧zbW s.heap S es ep t) where
  sub:=fun b hb=>by simp at hb;simp [hb]
  grefl:=fun _=>rfl
  gtrans:=fun _ _ _ h1 h2=>h2.trans h1
  frame:=fun i s h' tk st _ hk=>⟨st.1.at fun o e=>hk I (by simp) o e,st.2.at fun o e=>hk S (by simp) o e⟩
  item:=fun i s Q E hi st hQ=>by
    have hl:(pickOrder (w.params.setOrder S ep) es).size=es.size:=by rw [←Array.length_toList,(zb3 _ es).length_eq,Array.length_toList]
    have hx:(pickOrder (w.params.setOrder S ep) es)[i]?=some (pickOrder (w.params.setOrder S ep) es)[i]:=Array.getElem?_eq_getElem (by omega)
    have hT:=ycq (prog:=prog) st.2 hb 0 i
    rw [hx] at hT
    refine yen st.1 st.2 hT fun h' hit' hs'=>?_
    refine hQ _ _ ?_ ⟨hit',st.2.at fun o e=>?_⟩ ⟨fun b o hb e=>?_,rfl,rfl,rfl,Nat.le_refl _⟩
    · rw [List.getElem?_map,Array.getElem?_toList,hx];rfl
    · exact hs'.extBut S o hne e
    · exact hs'.extBut b o (fun q=>hb (by simp [q])) e
  done:=fun s Q E st hQ=>by
    have hl:(pickOrder (w.params.setOrder S ep) es).size=es.size:=by rw [←Array.length_toList,(zb3 _ es).length_eq,Array.length_toList]
    have hx:(pickOrder (w.params.setOrder S ep) es)[es.size]?=none:=Array.getElem?_eq_none (by omega)
    have hT:=ycq (prog:=prog) st.2 hb 0 es.size
    rw [hx] at hT
    exact wpAny_with_toks (Nat.le_refl s.toks) (yfi hh st.1 st.2 hT fun h' tk k htk=>hQ _ ⟨fun b o hb e=>k b o (fun q=>hb (by simp [q])) e,rfl,rfl,rfl,htk⟩)
  self:=fun i s Q E st h=>zbZ st.1 h
noncomputable def zbS (place:Array Nat):Nat→Nat
  | 0=>0
  | i+1=>place.getD i 0+1
theorem ybR {place:Array Nat} (h:Rise place):∀i,i≤place.size→SetTable.below place (zbS place i)=i
  | 0,_=>by
    obtain ⟨h1,h2,h3⟩:=ybP h 0
    show SetTable.below place 0=0
    rcases Nat.eq_zero_or_pos (SetTable.below place 0) with c|c
    · exact c
    · exact absurd (h2 0 (by omega) c) (Nat.not_lt_zero _)
  | i+1,hi=>by
    have e:zbS place (i+1)=place[i]+1:=by show place.getD i 0+1=_;simp [Array.getD,show i<place.size by omega]
    obtain ⟨h1,h2,h3⟩:=ybP h (zbS place (i+1))
    rw [e] at h1 h2 h3 ⊢
    generalize SetTable.below place (place[i]+1)=r at *
    rcases Nat.lt_trichotomy r (i+1) with c|c|c
    · have:=h3 i (by omega) (by omega);omega
    · exact c
    · have h4:=h2 (i+1) (by omega) c
      have h5:=ybX h (show i<i+1 by omega) (by omega)
      omega
theorem zdV {I S:Addr} {es:Array (Int×Value)} {ep:Nat} {t:SetTable} (hh:A.handled=none) (hne:S≠I) (hb:zba w=false) (hl:t.led=true) (hp:t.plain=true∨es.size≤1) (hr:Rise t.place) (hz:t.place.size=es.size) :
    WalksS prog w A I [I,S] [I] GE es.size (fun i v=>(es.toList.map (·.2))[i]?=some v) (fun i s=>IsSI s.heap I S (rawInt (zbS t.place i:Nat)) i es.size ep∧zbW s.heap S es ep t) where
  sub:=fun b hb=>by simp at hb;simp [hb]
  grefl:=fun _=>rfl
  gtrans:=fun _ _ _ h1 h2=>h2.trans h1
  frame:=fun i s h' tk st _ hk=>⟨st.1.at fun o e=>hk I (by simp) o e,st.2.at fun o e=>hk S (by simp) o e⟩
  item:=fun i s Q E hi st hQ=>by
    have hT:=zb9 (prog:=prog) st.2 hb hl hp (zbS t.place i) i
    rw [ybR hr i (by omega),Array.getElem?_eq_getElem hi,Array.getElem?_eq_getElem (show i<t.place.size by omega)] at hT
    refine yen (nx:=zbS t.place (i+1)) (x:=es[i].2) st.1 st.2 ?_ fun h' hit' hs'=>?_
    · have e:zbS t.place (i+1)=t.place[i]+1:=by show t.place.getD i 0+1=_;simp [Array.getD,show i<t.place.size by omega]
      rw [e];exact hT
    refine hQ _ _ ?_ ⟨hit',st.2.at fun o e=>?_⟩ ⟨fun b o hb e=>?_,rfl,rfl,rfl,Nat.le_refl _⟩
    · rw [List.getElem?_map,Array.getElem?_toList,Array.getElem?_eq_getElem hi];rfl
    · exact hs'.extBut S o hne e
    · exact hs'.extBut b o (fun q=>hb (by simp [q])) e
  done:=fun s Q E st hQ=>by
    have hT:=zb9 (prog:=prog) st.2 hb hl hp (zbS t.place es.size) es.size
    rw [ybR hr es.size (by omega),Array.getElem?_eq_none (Nat.le_refl _)] at hT
    exact wpAny_with_toks (Nat.le_refl s.toks) (yfi hh st.1 st.2 hT fun h' tk k htk=>hQ _ ⟨fun b o hb e=>k b o (fun q=>hb (by simp [q])) e,rfl,rfl,rfl,htk⟩)
  self:=fun i s Q E st h=>zbZ st.1 h
theorem zdX {I S T:Addr} {es:Array (Int×Value)} {ep:Nat} {t:SetTable} {ps:List Nat} (hh:A.handled=none) (hne:S≠I) (hneT:T≠I) (hps:ps.Perm (List.range es.size)) :
    WalksS prog w A I [I,S,T] [I] GE es.size (fun i v=>(ps.map fun p=>(es.getD p (0,.none)).2)[i]?=some v) (fun i s=>IsSI s.heap I S (.ref T) i es.size ep∧zbW s.heap S es ep t∧s.heap.IsTuple T (ps.map fun (p:Nat)=>rawInt p).toArray) where
  sub:=fun b hb=>by simp at hb;simp [hb]
  grefl:=fun _=>rfl
  gtrans:=fun _ _ _ h1 h2=>h2.trans h1
  frame:=fun i s h' tk st _ hk=>⟨st.1.at fun o e=>hk I (by simp) o e,st.2.1.at fun o e=>hk S (by simp) o e,st.2.2.at fun o e=>hk T (by simp) o e⟩
  item:=fun i s Q E hi st hQ=>by
    have hl:ps.length=es.size:=by rw [hps.length_eq,List.length_range]
    have hm:∀p∈ps,p<es.size:=fun p hp=>List.mem_range.mp (hps.mem_iff.mp hp)
    have hpi:ps[i]'(by omega)<es.size:=hm _ (List.getElem_mem _)
    refine yfI (pl:=ps[i]'(by omega)) (kx:=es[ps[i]'(by omega)]) (tk:=0) st.1 st.2.1 st.2.2 ?_ (Array.getElem?_eq_getElem hpi) fun h' hit' hs'=>?_
    · rw [List.getElem?_toArray,List.getElem?_map,List.getElem?_eq_getElem (show i<ps.length by omega)];rfl
    refine hQ _ _ ?_ ⟨hit',st.2.1.at fun o e=>hs'.extBut S o hne e,st.2.2.at fun o e=>hs'.extBut T o hneT e⟩ ⟨fun b o hb e=>hs'.extBut b o (fun q=>hb (by simp [q])) e,rfl,rfl,rfl,Nat.le_refl _⟩
    rw [List.getElem?_map,List.getElem?_eq_getElem (show i<ps.length by omega)]
    simp [Array.getD,hpi]
  done:=fun s Q E st hQ=>by
    have hl:ps.length=es.size:=by rw [hps.length_eq,List.length_range]
    exact wpAny_with_toks (Nat.le_refl s.toks) (zfT hh st.1 st.2.1 st.2.2 (by rw [List.getElem?_toArray,List.getElem?_eq_none (by simp;omega)]) fun h' tk k htk=>hQ _ ⟨fun b o hb e=>k b o (fun q=>hb (by simp [q])) e,rfl,rfl,rfl,htk⟩)
  self:=fun i s Q E st h=>zbZ st.1 h
theorem zd4 {es:Array (Int×Value)} {ps:List Nat} (hps:ps.Perm (List.range es.size)):(ps.map fun p=>(es.getD p (0,.none)).2).Perm (es.toList.map (·.2)):=by
  refine (hps.map _).trans ?_
  have e:(List.range es.size).map (fun p=>(es.getD p (0,Value.none)).2)=es.toList.map (·.2):=by
    apply List.ext_getElem
    · simp
    · intro i h1 h2
      simp at h1
      simp [Array.getD,h1]
  rw [e]
noncomputable def zfR (prog:Program) (w:World) (S:Addr) (es:Array (Int×Value)) (s0 s:Shared) (I:Addr):Prop :=
  ∃(vs:List Value) (fp:List Addr) (St:Nat→Shared→Prop),vs.Perm (es.toList.map (·.2))∧(∀A:Around,A.handled=none→WalksS prog w A I fp [I] GE es.size (fun i v=>vs[i]?=some v) St)∧St 0 s∧(∀b∈fp,b<s.heap.objs.size)∧I∈fp∧s.TypeIs (.ref I) "set_iterator"∧
    (∀b o,s0.heap.get? b=some o→s.heap.get? b=some o)∧s0.heap.objs.size≤I∧s.gens=s0.gens∧s.os=s0.os∧s0.toks≤s.toks∧∀b∈fp,b=S∨s0.heap.objs.size≤b
theorem ydV {xs:Array Nat} (h:xs.size≤1):Rise xs:=by
  unfold Rise
  rw [←Array.length_toList] at h
  match xs.toList,h with
  | [],_=>exact .nil
  | [x],_=>exact List.pairwise_singleton _ _
theorem zeX {S:Addr} {o:Obj} {es:Array (Int×Value)} {ep:Nat} {t:SetTable} {Q:Value→Shared→Prop} (ho:s.heap.get? S=some o) (hc:o.cls = .type "set") (hd:o.data = .set es ep t) (hf:t.fits es.size=true) (hb:es.size<scanBound) (hG:TabG (!zba w) t)
    (hQ:∀I s',zfR prog w S es s s' I→Q (.ref I) s'):wpAny (model prog w) A (pyIter (.ref S)) Q E s:=by
  have hT:s.TypeIs (.ref S) "set":=⟨o,ho,hc⟩
  have hSlt:=Heap.lt_size ho
  have hz:t.place.size=es.size:=by
    have:=hf
    unfold SetTable.fits at this
    simp only [Bool.and_eq_true,beq_iff_eq] at this
    exact this.1
  refine wpAny_pyIter_slot hT F.slot_set_iter (wpAny_call_entry F.slot_set_iter hT ycf ?_ (F.args_set_iter_1 _))
  unfold Builtin.«frozenset.__iter__» Builtin.Frozenset.slot0 Builtin.Frozenset.sizeOf
  refine wpAny_bind (wpAny_of_eq (a:=S) rfl ?_)
  refine wpAny_bind (wpAny_bind (wpAny_setEntries_of ho hd hf (wpAny_pure ?_)))
  unfold setDrawn setsByText
  refine wpAny_bind (wpAny_bind (wpAny_setState_of ho hd hf ?_))
  dsimp only
  refine wpAny_bind (wpAny_bind (wpAny_askSetting (wpAny_pure (wpAny_pure ?_))))
  refine wpAny_ite_split (fun h=>?_) (fun h=>?_)
  · have h':(!zba w&&(!t.plain&&decide (es.size>1)))=true:=h
    refine wpAny_bind (yc8 _ _ _ _ List.length_range fun ps d' hps=>?_)
    have hlen:ps.length=es.size:=by rw [hps.length_eq,List.length_range]
    refine wpAny_bind (wpAny_newTuple ?_ (by rw [List.length_map,hlen];exact fits_of_scanBound hb))
    have o1:(s.heap.push { cls:=.type "tuple",data:=.seq (ps.map fun (p:Nat)=>rawInt p).toArray }).get? S=some o:=Heap.get?_push_of_some _ ho
    unfold setEpoch
    refine wpAny_bind (wpAny_bind (wpAny_setState_of o1 hd hf (wpAny_pure ?_)))
    unfold newFields
    refine wpAny_bind (wpAny_newObj_type ?_ (by size_fits))
    refine wpAny_pure ⟨_,rfl,"set_iterator",_,⟨_,Heap.get?_push_size _ rfl,rfl⟩,zaq.lookup,hQ _ _ ?_⟩
    have hI:(s.heap.push { cls:=.type "tuple",data:=.seq (ps.map fun (p:Nat)=>rawInt p).toArray }).objs.size=s.heap.objs.size+1:=Heap.size_push _ _
    have e2:∀b o',s.heap.get? b=some o'→((s.heap.push { cls:=.type "tuple",data:=.seq (ps.map fun (p:Nat)=>rawInt p).toArray }).push { cls:=.type "set_iterator",data:=.fields #[.ref s.heap.objs.size,rawInt 0,.ref S,rawInt es.size,rawInt ep] }).get? b=some o':=fun b o' e=>Heap.get?_push_of_some _ (Heap.get?_push_of_some _ e)
    refine ⟨_,[(s.heap.push { cls:=.type "tuple",data:=.seq (ps.map fun (p:Nat)=>rawInt p).toArray }).objs.size,S,s.heap.objs.size],_,zd4 hps,fun A hh=>zdX (t:=t) (ep:=ep) hh ?_ ?_ hps,⟨⟨_,Heap.get?_push_size _ rfl,rfl,rfl⟩,⟨o,e2 S o ho,hd,hf⟩,⟨_,Heap.get?_push_of_some _ (Heap.get?_push_size _ rfl),rfl,0,rfl⟩⟩,?_,by simp,⟨_,Heap.get?_push_size _ rfl,rfl⟩,e2,?_,rfl,rfl,Nat.le_refl _,?_⟩
    · rw [hI];exact Nat.ne_of_lt (Nat.lt_succ_of_lt hSlt)
    · rw [hI];exact Nat.ne_of_lt (Nat.lt_succ_self _)
    · intro b hb
      simp only [List.mem_cons,List.not_mem_nil,or_false] at hb
      show b<((s.heap.push _).push _).objs.size
      rw [Heap.size_push,hI]
      rcases hb with rfl|rfl|rfl
      · rw [hI];exact Nat.lt_succ_self _
      · exact Nat.lt_succ_of_lt (Nat.lt_succ_of_lt hSlt)
      · exact Nat.lt_succ_of_lt (Nat.lt_succ_self _)
    · show s.heap.objs.size≤(s.heap.push _).objs.size
      rw [hI];exact Nat.le_succ _
    · intro b hb
      simp only [List.mem_cons,List.not_mem_nil,or_false] at hb
      rcases hb with rfl|rfl|rfl
      · right;rw [hI];exact Nat.le_succ _
      · exact .inl rfl
      · exact .inr (Nat.le_refl _)
  · have h':¬ (!zba w&&(!t.plain&&decide (es.size>1)))=true:=h
    refine wpAny_bind (wpAny_pure ?_)
    unfold setEpoch
    refine wpAny_bind (wpAny_bind (wpAny_setState_of ho hd hf (wpAny_pure ?_)))
    unfold newFields
    refine wpAny_bind (wpAny_newObj_type ?_ (by size_fits))
    refine wpAny_pure ⟨_,rfl,"set_iterator",_,⟨_,Heap.get?_push_size _ rfl,rfl⟩,zaq.lookup,hQ _ _ ?_⟩
    have e2:∀b o',s.heap.get? b=some o'→(s.heap.push { cls:=.type "set_iterator",data:=.fields #[rawInt 0,rawInt 0,.ref S,rawInt es.size,rawInt ep] }).get? b=some o':=fun b o' e=>Heap.get?_push_of_some _ e
    have hin:∀b∈[s.heap.objs.size,S],b<(s.heap.push { cls:=.type "set_iterator",data:=.fields #[rawInt 0,rawInt 0,.ref S,rawInt es.size,rawInt ep] }).objs.size:=by
      intro b hb
      simp only [List.mem_cons,List.not_mem_nil,or_false] at hb
      rw [Heap.size_push]
      rcases hb with rfl|rfl
      · exact Nat.lt_succ_self _
      · exact Nat.lt_succ_of_lt hSlt
    have hin2:∀b∈[s.heap.objs.size,S],b=S∨s.heap.objs.size≤b:=by
      intro b hb
      simp only [List.mem_cons,List.not_mem_nil,or_false] at hb
      rcases hb with rfl|rfl
      · exact .inr (Nat.le_refl _)
      · exact .inl rfl
    by_cases hbt:zba w=true
    · exact ⟨_,[s.heap.objs.size,S],_,(zb3 (w.params.setOrder S ep) es).map _,fun A hh=>yeI (t:=t) (ep:=ep) hh (Nat.ne_of_lt hSlt) hbt,⟨⟨_,Heap.get?_push_size _ rfl,rfl,rfl⟩,⟨o,e2 S o ho,hd,hf⟩⟩,hin,by simp,⟨_,Heap.get?_push_size _ rfl,rfl⟩,e2,Nat.le_refl _,rfl,rfl,Nat.le_refl _,hin2⟩
    · have hbf:zba w=false:=by simpa using hbt
      have hled:t.led=true:=by rw [hG.led,hbf];rfl
      have hp:t.plain=true∨es.size≤1:=by
        rw [hbf] at h'
        cases hpl:t.plain
        · rw [hpl] at h'
          simp at h'
          exact .inr h'
        · exact .inl rfl
      have hr:Rise t.place:=by
        rcases hp with hp|hp
        · exact hG.rise hp
        · exact ydV (by omega)
      exact ⟨_,[s.heap.objs.size,S],_,List.Perm.refl _,fun A hh=>zdV (t:=t) (ep:=ep) hh (Nat.ne_of_lt hSlt) hbf hled hp hr hz,⟨⟨_,Heap.get?_push_size _ rfl,rfl,rfl⟩,⟨o,e2 S o ho,hd,hf⟩⟩,hin,by simp,⟨_,Heap.get?_push_size _ rfl,rfl⟩,e2,Nat.le_refl _,rfl,rfl,Nat.le_refl _,hin2⟩
end
end L2
end
section
-- text: ExtR
set_option Elab.async false
set_option linter.all false
set_option maxRecDepth 100000
set_option maxHeartbeats 4000000
namespace L2
open PySem PyProof.Rows
theorem zcT:typeLookup (.type "set") "__len__"=pure (some (.builtin "set.__len__")):=by rw [typeLookup_type,builtinLookup_eq_fast];kernel_rfl
section
variable {prog:Program} {w:World} {A:Around} {E:Value→Shared→Prop} {s:Shared}
structure Left (s s':Shared):Prop where
  heap:∀b o,s.heap.get? b=some o→s'.heap.get? b=some o
  gens:s'.gens=s.gens
  os:s'.os=s.os
  toks:s.toks≤s'.toks
  size:s.heap.objs.size≤s'.heap.objs.size
theorem ye3 {vs:List Value} {n:Nat} {acc:Array Value} (hn:vs.length=n) (h:ItemsOf (fun i v=>vs[i]?=some v) acc n):acc.toList=vs:=by
  refine List.ext_getElem? fun i=>?_
  by_cases c:i<n
  · have h1:acc[i]?=some (acc[i]'(by rw [h.1];exact c)):=Array.getElem?_eq_getElem _
    rw [Array.getElem?_toList,h1]
    exact (h.2 i _ h1).symm
  · rw [Array.getElem?_toList,Array.getElem?_eq_none (by rw [h.1];omega),List.getElem?_eq_none (by omega)]
theorem ydu {S:Addr} {o:Obj} {es:Array (Int×Value)} {ep:Nat} {t:SetTable} {Q:List Value→Shared→Prop} (hh:A.handled=none) (ho:s.heap.get? S=some o) (hc:o.cls = .type "set") (hd:o.data = .set es ep t) (hf:t.fits es.size=true) (hb:es.size<scanBound) (hG:TabG (!zba w) t)
    (hQ:∀vs s',vs.Perm (es.toList.map (·.2))→Left s s'→Q vs s'):wpAny (model prog w) A (collect (.ref S)) Q E s:=by
  have hSlt:=Heap.lt_size ho
  unfold collect
  refine wpAny_bind (wpAny_runValue (codeAny_builtin F.entry_proto_collect ?_))
  rw [Around.under_plainId F.plain_proto_collect _]
  show wpAny _ A.in1 (newList [] >>= fun l=>again (.builtin "list.__iadd__" ⟨[l,.ref S],[]⟩)) _ _ s
  refine wpAny_bind (wpAny_newObj_type ?_)
  refine wpAny_pure ⟨plainId_quiet F.plain_list_iadd _,codeAny_builtin F.entry_list_iadd ?_⟩
  rw [Around.under_plainId F.plain_list_iadd _]
  have ho1:(s.heap.push { cls:=.type "list",data:=.seq ([]:List Value).toArray }).get? S=some o:=Heap.get?_push_of_some _ ho
  have hS1:(s.heap.push { cls:=.type "list",data:=.seq ([]:List Value).toArray }).get? s.heap.objs.size=some { cls:=.type "list",data:=.seq ([]:List Value).toArray }:=Heap.get?_push_size _ rfl
  have h1:Builtin.List.listSameRef (.ref s.heap.objs.size) (.ref S)=false:=by simp [Builtin.List.listSameRef];exact Nat.ne_of_gt hSlt
  show wpAny _ A.in1 (Builtin.List.listExtendWith (.ref s.heap.objs.size) (.ref S) (.ref s.heap.objs.size)) _ _ _
  unfold Builtin.List.listExtendWith
  refine wpAny_bind (wpAny_typeOf (T:="set") ⟨o,ho1,hc⟩ ?_)
  rw [if_neg (by rw [h1];decide)]
  refine wpAny_bind (zeX ho1 hc hd hf hb hG fun I s2 ⟨vs,fp,St,hp,hW,hst,hfp,hI,hT,hk,hge,hg,hos,htk,hfs⟩=>?_)
  have ho2:=hk S o ho1
  have hS2:=hk _ _ hS1
  refine wpAny_bind (wpAny_holding ?_)
  unfold Builtin.List.listLengthHint
  refine wpAny_bind (wpAny_specialOf (T:="set") ⟨o,ho2,hc⟩ zcT ?_)
  (generalize hid:("set.__len__":String)=id0;(fail_if_success (clear hid id0));wp_delta;rw [show splitId id0=some ("set","__len__") from by subst hid;decide +kernel];subst hid)
  refine wpAny_bind (wpAny_isInstance (T:="set") (b:=true) ⟨o,ho2,hc⟩ (by rw [isSubtype_type];kernel_rfl) ?_)
  refine wpAny_ite_split (fun h=>absurd h (by decide)) (fun _=>?_)
  refine wpAny_ite_split (fun _=>?_) (fun h=>(h (by decide +kernel)).elim)
  refine wpAny_bind (wpAny_typeOf (T:="set") ⟨o,ho2,hc⟩ ?_)
  refine wpAny_pure ?_
  refine wpAny_ite_split (fun _=>?_) (fun h=>(h (by decide +kernel)).elim)
  refine wpAny_bind (wpAny_rule ?_)
  refine wpAny_bind ?_
  show wpAny _ A.in1 (updateSeq s.heap.objs.size (·.push .none) >>= fun _=>updateSeq s.heap.objs.size (·.pop)) _ _ _
  refine wpAny_bind (wpAny_updateSeq hS2 rfl ?_)
  have hS3:=Heap.get?_update_self (Obj.mapSeq (·.push Value.none)) hS2 rfl
  refine wpAny_updateSeq hS3 rfl ?_
  have hS4:=Heap.get?_update_self (Obj.mapSeq (·.pop)) hS3 rfl
  have hlt:s.heap.objs.size<I:=by
    have:=hge
    rw [show (s.heap.push { cls:=.type "list",data:=.seq ([]:List Value).toArray }).objs.size=s.heap.objs.size+1 from Heap.size_push _ _] at this
    exact this
  have W:=hW A.in1 hh
  have hSf:s.heap.objs.size∉fp:=fun hm=>by
    rcases hfs _ hm with h|h
    · exact absurd h (Nat.ne_of_gt hSlt)
    · rw [show (s.heap.push { cls:=.type "list",data:=.seq ([]:List Value).toArray }).objs.size=s.heap.objs.size+1 from Heap.size_push _ _] at h
      exact absurd h (Nat.not_succ_le_self _)
  have oth:∀b o',b≠s.heap.objs.size→s2.heap.get? b=some o'→((s2.heap.update s.heap.objs.size (Obj.mapSeq (·.push Value.none))).update s.heap.objs.size (Obj.mapSeq (·.pop))).get? b=some o' :=
    fun b o' hb e=>(Heap.get?_update_other _ _ (Ne.symm hb)).trans ((Heap.get?_update_other _ _ (Ne.symm hb)).trans e)
  have hlen:vs.length=es.size:=by rw [hp.length_eq,List.length_map,Array.length_toList]
  refine wpAny_pure ⟨plainId_quiet F.plain_extend_loop _,codeAny_extend_loopS W (fits_of_scanBound hb) _ hSf _ es.size 0 _ _ _ rfl (Nat.zero_le _)
    (W.frame 0 s2 _ s2.toks hst (Nat.le_refl _) fun b hb o e=>oth b o (fun h=>hSf (h ▸ hb)) e) hS4 (ItemsOf.nil _) fun s' acc' c' hm hS' hacc=>?_⟩
  show wpAny _ A (load s.heap.objs.size >>= _) _ _ s'
  refine wpAny_bind (wpAny_load hS' ?_)
  refine wpAny_pure ?_
  rw [ye3 hlen hacc]
  refine hQ vs s' hp ⟨fun b o' e=>?_,?_,?_,?_,Nat.le_of_lt (Heap.lt_size hS')⟩
  · have hb:=Heap.lt_size e
    refine hm.heap b o' ?_ (oth b o' (Nat.ne_of_lt hb) (hk b o' (Heap.get?_push_of_some _ e)))
    simp only [List.mem_cons,List.not_mem_nil,or_false,not_or]
    exact ⟨Nat.ne_of_lt hb,Nat.ne_of_lt (Nat.lt_trans hb hlt)⟩
  · exact hm.gens.trans hg
  · exact hm.os.trans hos
  · exact Nat.le_trans htk hm.toks
end
end L2
end
section
-- text: ExtS
set_option Elab.async false
set_option linter.all false
set_option maxRecDepth 100000
set_option maxHeartbeats 4000000
namespace L2
open PySem PyProof.Rows
theorem zc4 {α:Type} [BEq α] [LawfulBEq α]:∀ {σ τ:List α},σ.Nodup→(∀x∈σ,x∈τ)→σ.length≤τ.length
  | [],_,_,_=>Nat.zero_le _
  | x::σ,τ,h,hs=>by
    have hx:x∈τ:=hs x List.mem_cons_self
    have h2:=List.nodup_cons.mp h
    have:=zc4 (σ:=σ) (τ:=τ.erase x) h2.2 fun y hy=>(List.mem_erase_of_ne (fun e=>h2.1 (by rw [←e];exact hy))).mpr (hs y (List.mem_cons_of_mem _ hy))
    rw [List.length_erase_of_mem hx] at this
    have hp:0 < τ.length:=List.length_pos_of_mem hx
    simp only [List.length_cons]
    omega
theorem ycm {α:Type} [BEq α] [LawfulBEq α]:∀ {σ τ:List α},σ.Nodup→(∀x∈σ,x∈τ)→τ.length≤σ.length→σ.Perm τ
  | [],τ,_,_,hl=>by
    have:τ=[]:=List.length_eq_zero_iff.mp (by simpa using hl)
    rw [this]
  | x::σ,τ,h,hs,hl=>by
    have hx:x∈τ:=hs x List.mem_cons_self
    have h2:=List.nodup_cons.mp h
    have ih:=ycm (σ:=σ) (τ:=τ.erase x) h2.2 (fun y hy=>(List.mem_erase_of_ne (fun e=>h2.1 (by rw [←e];exact hy))).mpr (hs y (List.mem_cons_of_mem _ hy))) (by rw [List.length_erase_of_mem hx];simp at hl;omega)
    exact (List.Perm.cons x ih).trans (List.perm_cons_erase hx).symm
theorem zbc (val:Nat→Int):∀i,(firstMet val i).Nodup
  | 0=>List.nodup_nil
  | i+1=>by
    rw [firstMet_succ]
    unfold step_dedup
    split
    · exact zbc val i
    · rename_i hn
      refine List.nodup_append.mpr ⟨zbc val i,by simp,fun a ha b hb=>?_⟩
      rw [List.mem_singleton] at hb
      intro e
      exact hn (List.any_eq_true.mpr ⟨a,ha,by rw [e,hb];exact beq_self_eq_true _⟩)
theorem zbt (ns:List Int) (k:Int):k∈firstMet (fun i=>ns.getD i 0) ns.length↔k∈ns:=by
  have h:=firstMet_any (fun i=>ns.getD i 0) ns.length k
  have e:(List.range ns.length).map (fun i=>ns.getD i 0)=ns:=by
    apply List.ext_getElem
    · simp
    · intro i h1 h2
      simp [List.getD,h2]
  rw [e] at h
  have c:∀l:List Int,l.any (·==k)=true↔k∈l:=fun l=>by
    rw [List.any_eq_true]
    exact ⟨fun ⟨x,hx,q⟩=>by rw [←eq_of_beq q];exact hx,fun hk=>⟨k,hk,beq_self_eq_true _⟩⟩
  rw [←c,←c,h]
section
variable {prog:Program} {w:World} {A:Around} {E:Value→Shared→Prop} {s:Shared}
theorem zct:∀ {vs:List Value},(∀v∈vs,∃k t,v = .int k t)→∃ns,IntsAre vs ns∧∀k,k∈ns↔∃v∈vs,∃t,v = .int k t
  | [],_=>⟨[],.nil,fun k=>⟨fun h=>(nomatch h),fun ⟨v,h,_⟩=>(nomatch h)⟩⟩
  | v::vs,h=>by
    obtain ⟨ns,hn,hm⟩:=zct fun v' hv=>h v' (List.mem_cons_of_mem _ hv)
    obtain ⟨k,t,rfl⟩:=h v List.mem_cons_self
    refine ⟨k::ns,.cons k t hn,fun k'=>⟨fun hk=>?_,fun ⟨v',hv,t',e⟩=>?_⟩⟩
    · rcases List.mem_cons.mp hk with rfl|hk
      · exact ⟨_,List.mem_cons_self,t,rfl⟩
      · obtain ⟨v',hv,t',e⟩:=(hm k').mp hk
        exact ⟨v',List.mem_cons_of_mem _ hv,t',e⟩
    · rcases List.mem_cons.mp hv with rfl|hv
      · cases e;exact List.mem_cons_self
      · exact List.mem_cons_of_mem _ ((hm k').mpr ⟨v',hv,t',e⟩)
theorem ydZ {S:Addr} {Sm:Int→Bool} {n:Nat} {Q:Value→Shared→Prop} (hh:A.handled=none) (hS:SetG w prog s.heap S Sm n) (h64:n<64)
    (hQ:∀(h':Heap) (d':Drawn) (tk:Nat) (L:Addr) (ns':List Int) (out:Array Value) (e:Nat),IntsAre out.toList ns'→ns'.length=n→(∀k,k∈ns'↔Sm k=true)→ns'.Pairwise (·≤·)→(∀b o,s.heap.get? b=some o→h'.get? b=some o)→s.heap.objs.size≤L→
      h'.get? L=some (seqObj "list" out e)→Q (.ref L) { heap:=h',gens:=s.gens,drawn:=d',toks:=tk,os:=s.os }) :
    wpAny (model prog w) A (call (.builtin "sorted") [.ref S]) Q E s:=by
  obtain ⟨o,es,ep,t,ho,hex,hd,hel,hmem,hb,hf,hn,hG⟩:=hS
  refine Calls.call_function_entry kind_sorted plain_sorted entry_sorted (args_sorted1 _) ?_
  unfold Builtin.«sorted»
  refine wpAny_bind (m:=checkCount "sorted" 1 1 _) (wpAny_pure ?_)
  refine wpAny_bind (ydu (by simp [hh]) ho hex.1 hd hf hb hG fun vs s2 hp hL=>?_)
  have hall:∀v∈vs,∃k t,v = .int k t:=fun v hv=>by
    obtain ⟨e,he,rfl⟩:=List.mem_map.mp (hp.mem_iff.mp hv)
    obtain ⟨⟨k,hk,_⟩,_⟩:=hel e he
    obtain ⟨t,ht⟩:=Value.isInt_shape hk
    exact ⟨k,t,ht⟩
  obtain ⟨ns,hI,hm⟩:=zct hall
  have hl:vs.length=n:=by rw [hp.length_eq,List.length_map,Array.length_toList,hn]
  refine wpAny_bind (wpAny_newList ?_)
  have hoL:(s2.heap.push (seqObj "list" vs.toArray 0)).get? s2.heap.objs.size=some (seqObj "list" vs.toArray 0):=Heap.get?_push_size _ rfl
  refine wpAny_bind (wpAny_holding (wpAny_call_entry slot_list_sort ⟨_,hoL,rfl⟩ entry_list_sort (list_sort_tree hoL hI (by omega) fun out ns' a1 a2 a3=>⟨_,rfl,?_⟩) (args_list_sort _)))
  refine wpAny_pure ⟨_,rfl,?_⟩
  obtain ⟨e,he⟩:=sortedHeap_at (out:=out) hoL
  have hle:=hL.size
  have hk:=hL.heap
  have hg:=hL.gens
  have hos:=hL.os
  obtain ⟨h2,g2,d2,t2,o2⟩:=s2
  dsimp only at hg hos
  subst hg;subst hos
  refine hQ _ _ _ _ ns' out e a1 ?_ ?_ a3 (fun b ob eb=>?_) hle he
  · rw [a2.length_eq,←IntsAre.length hI];exact hl
  · intro k
    rw [a2.mem_iff,hm,hmem]
    constructor
    · rintro ⟨v,hv,t',rfl⟩
      obtain ⟨e',he',q⟩:=List.mem_map.mp (hp.mem_iff.mp hv)
      exact ⟨e',he',by rw [q];exact intKind_is _ _ _ _⟩
    · rintro ⟨e',he',q⟩
      obtain ⟨t',ht⟩:=Value.isInt_shape q
      exact ⟨e'.2,hp.mem_iff.mpr (List.mem_map_of_mem he'),t',ht⟩
  · have hlt:=Heap.lt_size (hk b ob eb)
    rw [sortedHeap_old (Nat.ne_of_lt hlt) (by rw [show (h2.push (seqObj "list" vs.toArray 0)).objs.size=h2.objs.size+1 from Heap.size_push _ _];exact Nat.lt_succ_of_lt hlt)]
    exact Heap.get?_push_of_some _ (hk b ob eb)
end
end L2
end
section
-- text: ExtT
set_option Elab.async false
set_option linter.all false
set_option maxRecDepth 100000
set_option maxHeartbeats 4000000
namespace L2
open PySem PyProof.Rows
theorem ydm:bootBuiltins "set"=some (.type "set"):=by decide +kernel
theorem ych:bootBuiltins "sorted"=some (.builtin "sorted"):=by decide +kernel
section
variable {X:Cx}
theorem Inv.redraw {pins:List (Addr×Obj)} {σ:St} {H:Hp} {s s':Shared} (I:Inv X pins σ H s) (h1:s'.heap=s.heap) (h2:s'.gens=s.gens) (h3:s'.os=s.os):Inv X pins σ H s' :=
  ⟨I.ok,by rw [h3];exact I.os,by rw [h2];exact I.bare,by rw [h1];exact I.base,by rw [h1];exact I.loc,by rw [h1];exact I.cell,I.free,I.freeC,by rw [h1];exact I.pin,by rw [h1];exact I.hok,I.len⟩
theorem Inv.more {pins:List (Addr×Obj)} {σ:St} {H:Hp} {s:Shared} {h':Heap} {tk:Nat} (I:Inv X pins σ H s) (k:∀b o,s.heap.get? b=some o→h'.get? b=some o):Inv X pins σ H { s with heap:=h',toks:=tk } :=
  I.turnedL (fp:=[]) (fun b hb=>nomatch hb) fun b o _ e=>k b o e
noncomputable def yeW (K:PySem.W.Frag) (te:TE):TE:=fun σ H Q=>te σ H fun x H1=>∃(a:Addr) (ns:List Int),x = .ref a∧SqL K H1 a (ns.map V.int)∧ns.length<4000∧(∀ks:List Int,ks.Nodup→(∀k∈ks,k∈ns)→ks.length<64)∧
  ∀(l:Addr) (ns':List Int),H1 l=none→ns'.Pairwise (· < ·)→(∀k,k∈ns'↔k∈ns)→Q (.ref l) (upd H1 l (.lst (ns'.map V.int)))
theorem ydT {e:Expr} {te:TE} {p1 p2 pos pos2:Pos} (hc:X.calm=true) (hg1:Gl X "sorted") (hm1:X.mg "sorted"=none) (hg2:Gl X "set") (hm2:X.mg "set"=none) (he:PE X e te)
    (hs:starEach [e] X.env=[(false,eval e X.env)]:=by rfl) (hs2:starEach [.Call (.Name "set" p2) [e] [] pos2] X.env=[(false,eval (.Call (.Name "set" p2) [e] [] pos2) X.env)]:=by rfl) :
    PE X (.Call (.Name "sorted" p1) [.Call (.Name "set" p2) [e] [] pos2] [] pos) (yeW X.K te):=by
  intro pins s σ H Q I h
  refine wpAny_Call_Name_kw (zbz I hg1 hm1 ych ?_ (by decide) (by decide))
  refine PyProof.Rows.callWith_builtin1 ?_ hs2 rfl
  rw [hs2]
  show wpAny _ _ (spliced ((false,eval (.Call (.Name "set" p2) [e] [] pos2) X.env)::[])) _ _ s
  refine Calls.spliced_cons ?_
  refine wpAny_Call_Name_kw (zbz I hg2 hm2 ydm ?_ (by decide) (by decide))
  refine PyProof.Rows.callWith_type1 ?_ hs rfl
  rw [hs]
  show wpAny _ _ (spliced ((false,eval e X.env)::[])) _ _ s
  refine Calls.spliced_cons (thn (he pins s σ H _ I h) fun u s1 ⟨x,H1,I1,r1,a,ns,ex,ha,hl,h64,q⟩=>?_)
  subst ex
  cases r1
  refine Calls.spliced_nil ?_
  obtain ⟨its,r2,p2,z2⟩:=I1.list ha
  have hlen:=r2.length
  rw [List.length_map] at hlen
  have hh:=I1.ok.hd hc
  refine yd0 hh p2.isList (by simpa using zcz r2) (by rw [List.size_toArray];unfold scanBound;omega) fun h2 tk2 hS hk=>?_
  refine Calls.spliced_nil ?_
  have I2:Inv X pins σ H1 { s1 with heap:=h2,toks:=tk2 }:=I1.more hk
  have hsz:its.toArray.size=ns.length:=by rw [List.size_toArray,hlen]
  rw [hsz] at hS
  have hfm:=zbc (fun i=>ns.getD i 0) ns.length
  refine ydZ (s:={ s1 with heap:=h2,toks:=tk2 }) hh hS (h64 _ hfm fun k hk=>(zbt ns k).mp hk) fun h3 d3 tk3 L ns' out e3 b1 b2 b3 b4 b5 b6 b7=>?_
  have hmem:∀k,k∈ns'↔k∈firstMet (fun i=>ns.getD i 0) ns.length:=fun k=>by
    rw [b3]
    constructor
    · intro h
      obtain ⟨y,hy,q⟩:=List.any_eq_true.mp h
      rw [←eq_of_beq q];exact hy
    · intro h;exact List.any_eq_true.mpr ⟨k,h,beq_self_eq_true _⟩
  have hnd:ns'.Nodup:=(ycm hfm (fun k hk=>(hmem k).mpr hk) (by rw [b2];exact Nat.le_refl _)).nodup_iff.mp hfm
  have hlt:ns'.Pairwise (· < ·):=by
    refine List.Pairwise.imp₂ (fun a b h1 h2=>?_) b4 hnd
    omega
  have r3:Vals (ns'.map V.int) out.toList:=ybS b1
  have I3:Inv X pins σ (upd H1 L (.lst (ns'.map V.int))) { s1 with heap:=h3,toks:=tk3 }:=I2.laid (a:=L) (t':=tk3) (o:=.lst (ns'.map V.int)) b5 b6 ⟨?_,out.toList,e3,r3,?_⟩
  · refine ⟨.ref L,_,I3.redraw rfl rfl rfl,rfl,q L ns' (I2.hok.fresh b6) hlt fun k=>(hmem k).trans (zbt ns k)⟩
  · rw [List.length_map,b2]
    have:=h64 _ hfm fun k hk=>(zbt ns k).mp hk
    have:=sizeLine_eq
    omega
  · rw [b7]
end
end L2
end
section
-- text: ExtU
set_option Elab.async false
set_option linter.all false
set_option maxRecDepth 100000
set_option maxHeartbeats 4000000
namespace L2
open PySem PySem.Spec PyProof.Rows
section
variable {X:Cx}
noncomputable def yge (K:PySem.W.Frag):List V→Hp→VK→Prop:=fun vs H Q=>∃(a:Addr) (ns:List Int),vs=[.ref a]∧SqL K H a (ns.map V.int)∧0<ns.length∧∀M,M∈ns→(∀a∈ns,a≤M)→Q (.int M) H
theorem yey (hc:X.calm=true):yaT X (.builtin "max") (yge X.K):=by
  intro pins s σ H xs us Q I r h
  obtain ⟨a,ns,rfl,ha,hl,q⟩:=h
  obtain ⟨u,rfl,rx⟩:=zb4 r
  cases rx
  obtain ⟨its,r1,p1,z1⟩:=I.list ha
  have hi:IntsAre its ns:=zcz r1
  have hlist:=p1.isList
  obtain ⟨ys,e⟩:=hi.allInts.items
  have hns:ns=ys.toList.map (·.1):=by rw [←hi.numsOf,←nums_intItems,←e]
  have hsz:0<ys.size:=by
    have h3:=hl;rw [hns,List.length_map,Array.length_toList] at h3;exact h3
  rw [e] at hlist
  refine max_intList (I.ok.hd hc) hlist hsz fun v h' tk hv hk=>?_
  obtain ⟨t,rfl⟩:=intItems_at hv
  obtain ⟨h1,h2⟩:=argBest_gt (numAt ys) (ys.size-1)
  refine ⟨.int _,H,I.more (fun b o eb=>hk b o eb),zcN _ _,q _ ?_ fun b hb=>?_⟩
  · rw [hns,numAt_eq];exact getD_mem (by rw [List.length_map,Array.length_toList];omega)
  · rw [hns] at hb
    obtain ⟨j,hj,rfl⟩:=mem_getD hb
    rw [List.length_map,Array.length_toList] at hj
    rw [←numAt_eq];exact h2 j (by omega)
end
end L2
end
section
-- text: ExtV
set_option Elab.async false
set_option linter.all false
set_option maxRecDepth 100000
set_option maxHeartbeats 4000000
namespace HT
open PySem PyProof.Rows
section
variable {prog:Program} {w:World} {A:Around} {E:Value→Shared→Prop} {s:Shared}
end
end HT
namespace L2
open PySem PyProof.Rows
section
variable {X:Cx}
end
end L2
end
section
-- text: ExtW
set_option Elab.async false
set_option linter.all false
set_option maxRecDepth 100000
set_option maxHeartbeats 4000000
namespace HT
open PySem PyProof.Rows
section
variable {prog:Program} {w:World} {A:Around} {E:Value→Shared→Prop} {s:Shared}
end
end HT
namespace L2
open PySem PyProof.Rows
section
variable {X:Cx}
end
end L2
end
section
-- text: ExtX
set_option Elab.async false
set_option linter.all false
set_option maxRecDepth 100000
set_option maxHeartbeats 4000000
namespace L2
open PySem PySem.Spec PyProof.Rows
section
variable {X:Cx}
end
end L2
end
section
-- text: ExtY
set_option Elab.async false
set_option linter.all false
set_option maxRecDepth 100000
set_option maxHeartbeats 4000000
namespace L2
open PySem PySem.Spec PyProof.Rows
section
variable {X:Cx}
noncomputable def shV:V→Str
  | .int i=>toString i
  | _=>"None"
noncomputable def zfQ:List V→Hp→VK→Prop:=fun vs H Q=>∃v:V,vs=[v]∧((∃n:Nat,n<100∧v = .int n)∨v = .non)∧Q (.str (shV v)) H
theorem ydf:∀n:Nat,n<100→(n:Int).natAbs.log2<1920:=fun n h=>by
  rw [Int.natAbs_natCast]
  rcases Nat.eq_zero_or_pos n with e|e
  · rw [e];decide
  · exact Nat.lt_of_lt_of_le ((Nat.log2_lt (k:=7) (by omega)).mpr (by omega)) (by decide)
theorem ycp:yaT X (.builtin "repr") zfQ:=by
  intro pins s σ H xs us Q I r h
  obtain ⟨v,rfl,hv,q⟩:=h
  obtain ⟨u,rfl,rx⟩:=zb4 r
  rcases hv with ⟨n,hn,rfl⟩|rfl
  · obtain ⟨t,rfl⟩:=rx
    refine P.repr_of_int (ydf n hn) ?_
    exact ⟨.str _,H,I.kept fun b o e=>e,⟨_,rfl⟩,q⟩
  · cases rx
    refine P.repr_of_none ?_
    exact ⟨.str _,H,I.kept fun b o e=>e,⟨_,rfl⟩,q⟩
end
end L2
namespace L2
open PySem PySem.Spec PyProof.Rows
section
variable {X:Cx} {K:PySem.W.Frag}
end
end L2
end
section
-- text: ExtZ
set_option Elab.async false
set_option linter.all false
set_option maxRecDepth 100000
set_option maxHeartbeats 4000000
namespace L2
open PySem PySem.Spec PyProof.Rows
noncomputable def RdN (K:PySem.W.Frag) (H:Hp):Nat→V→PyData→Prop
  | 0,_,_=>False
  | n+1,v,d=>(∃i:Int,v = .int i∧d = .int i)∨∃(a:Addr) (xs:List V) (ds:List PyData),v = .ref a∧d = .tuple ds∧SqT K H a xs∧xs.length=ds.length∧∀(i:Nat) x e,xs[i]?=some x→ds[i]?=some e→RdN K H n x e
theorem yb9 {h:Heap}:∀ {us:List Value} {ds:List PyData},us.length=ds.length→(∀(i:Nat) u e,us[i]?=some u→ds[i]?=some e→Reads h u e [])→ReadsAll h us ds []
  | [],[],_,_=>.nil
  | [],_::_,hl,_=>by cases hl
  | _::_,[],hl,_=>by cases hl
  | u::us,d::ds,hl,hr=>by
    have h1:=hr 0 u d rfl rfl
    have h2:=yb9 (us:=us) (ds:=ds) (by simpa using hl) fun i u' e hu he=>hr (i+1) u' e hu he
    exact .cons (as:=[]) (bs:=[]) h1 h2
section
variable {X:Cx}
theorem ydB {pins:List (Addr×Obj)} {σ:St} {H:Hp} {s:Shared} (I:Inv X pins σ H s):∀(n:Nat) (x:V) (d:PyData) (u:Value),RdN X.K H n x d→RelV x u→Reads s.heap u d []
  | 0,_,_,_,h,_=>h.elim
  | n+1,x,d,u,h,r=>by
    rcases h with ⟨i,rfl,rfl⟩ | ⟨a,xs,ds,rfl,rfl,ha,hl,hx⟩
    · obtain ⟨t,rfl⟩:=r
      exact .int i t
    · cases r
      obtain ⟨us,r1,⟨o,ho,hc,k,hd⟩,z1⟩:=I.tuple ha
      have l1:=r1.length
      refine .tuple ho hc hd (yb9 (by simp;omega) fun i u e hu he=>?_)
      have hi:=(List.getElem?_eq_some_iff.mp hu).1
      obtain ⟨x1,e1,q1⟩:=ye5 r1 (i:=i) (by simpa using hi)
      have eu:us.toArray[i]'(by simpa using hi)=u:=by
        have:=(List.getElem?_eq_some_iff.mp hu).2
        simpa using this
      rw [eu] at q1
      exact ydB I n x1 e u (hx i x1 e e1 he) q1
end
structure DOk (d:PyData) (w:Nat):Prop where
  sh:d.showable=true
  nd:d.hasDict=false
  dp:d.depth≤40
  sl:d.leavesShort 8=true
  we:d.weight≤w
theorem zfF {ns:List Nat} (h:∀n∈ns,n<100):PyData.showableAll (ns.map fun n:Nat=>PyData.int (n:Int))=true∧PyData.hasDictAll (ns.map fun n:Nat=>PyData.int (n:Int))=false∧PyData.depthAll (ns.map fun n:Nat=>PyData.int (n:Int))=0∧PyData.leavesShortAll 8 (ns.map fun n:Nat=>PyData.int (n:Int))=true∧PyData.weightAll (ns.map fun n:Nat=>PyData.int (n:Int))≤11*ns.length:=by
  induction ns with
  | nil=>exact ⟨rfl,rfl,rfl,rfl,Nat.le_refl _⟩
  | cons n ns ih =>
    obtain ⟨i1,i2,i3,i4,i5⟩:=ih fun y hy=>h y (List.mem_cons_of_mem _ hy)
    have hn:=h n List.mem_cons_self
    obtain ⟨k1,k2⟩:=zdo n hn
    rw [List.map_cons]
    refine ⟨?_,?_,?_,?_,?_⟩
    · show (decide ((n:Int).natAbs.log2<1920)&&PyData.showableAll _)=true
      rw [i1,decide_eq_true (ydf n hn)];rfl
    · show (false||PyData.hasDictAll _)=false
      rw [i2];rfl
    · show max 0 (PyData.depthAll _)=0
      rw [i3];rfl
    · show (PyData.leavesShort 8 (.int (n:Int))&&PyData.leavesShortAll 8 _)=true
      rw [k1,i4];rfl
    · show PyData.weight (.int (n:Int))+1+PyData.weightAll _≤11*(ns.length+1)
      omega
theorem yel {K:PySem.W.Frag} {H:Hp} {a:Addr} {ns:List Nat} {k:Nat} (h:SqT K H a (ns.map fun n:Nat=>V.int (n:Int))):RdN K H (k+2) (.ref a) (.tuple (ns.map fun n:Nat=>PyData.int (n:Int))):=by
  refine .inr ⟨a,_,_,rfl,rfl,h,by simp,fun i x e hx he=>.inl ?_⟩
  rw [List.getElem?_map] at hx he
  cases q:ns[i]? with
  | none=>rw [q] at hx;cases hx
  | some n=>rw [q] at hx he;cases hx;cases he;exact ⟨_,rfl,rfl⟩
section
variable {X:Cx}
end
end L2
end
section
-- text: ExtRa
set_option Elab.async false
set_option linter.all false
set_option maxRecDepth 100000
set_option maxHeartbeats 4000000
namespace L2
open PySem PySem.Spec PyProof.Rows
section
variable {prog:Program} {w:World} {A:Around} {E:Value→Shared→Prop} {s:Shared}
end
section
variable {X:Cx}
end
end L2
end
section
-- text: ExtRb
set_option Elab.async false
set_option linter.all false
set_option maxRecDepth 100000
set_option maxHeartbeats 4000000
namespace L2
open PySem PySem.Spec PyProof.Rows
section
variable {X:Cx}
end
end L2
end
section
-- text: ExtRc
set_option Elab.async false
set_option linter.all false
set_option maxRecDepth 100000
set_option maxHeartbeats 4000000
namespace L2
open PySem PySem.Spec PyProof.Rows
section
variable {X:Cx} {pins:List (Addr×Obj)} {σ:St} {H:Hp} {s:Shared} {a:Addr}
end
section
variable {X:Cx} {tg:Expr}
end
end L2
end
section
-- text: MathA
set_option linter.all false
set_option autoImplicit false
namespace Dg
noncomputable def dg (p i x:Nat):Nat:=x/p^i%p
theorem ybk (p x:Nat):dg p 0 x=x%p:=by simp [dg]
theorem zbs (p i x:Nat):dg p (i+1) x=dg p i (x/p):=by
  unfold dg;rw [Nat.pow_succ,Nat.mul_comm,Nat.div_div_eq_div_mul]
theorem yfT {p:Nat} (hp:2≤p) (i x:Nat):dg p i x<p:=Nat.mod_lt _ (by omega)
theorem zaI {p:Nat} (hp:2≤p) {i k x:Nat} (h:x<p^k) (hk:k≤i):dg p i x=0:=by
  unfold dg
  have:x<p^i:=Nat.lt_of_lt_of_le h (Nat.pow_le_pow_right (by omega) hk)
  rw [Nat.div_eq_of_lt this,Nat.zero_mod]
theorem ybo (p i:Nat):dg p i 0=0:=by simp [dg]
theorem ext {p:Nat} (hp:2≤p):∀ {a b:Nat},(∀i,dg p i a=dg p i b)→a=b:=by
  intro a
  induction a using Nat.strongRecOn with
  | _ a ih =>
    intro b h
    have h0:=h 0
    rw [ybk,ybk] at h0
    by_cases ha:a=0
    · subst ha
      have key:∀n,∀b,b≤n→(∀i,dg p i b=0)→b=0:=by
        intro n
        induction n with
        | zero=>intro b hb _;omega
        | succ n ihn =>
          intro b hb hz
          by_cases hb0:b=0
          · exact hb0
          · have hlt:b/p<b:=Nat.div_lt_self (by omega) (by omega)
            have hd:b/p=0:=ihn (b/p) (by omega) fun i=>by rw [←zbs];exact hz (i+1)
            have hm:b%p=0:=by rw [←ybk];exact hz 0
            have:=Nat.div_add_mod b p
            rw [hd,hm] at this
            simpa using this.symm
      exact (key b b (Nat.le_refl _) fun i=>by rw [←h i,ybo]).symm
    · have hlt:a/p<a:=Nat.div_lt_self (by omega) (by omega)
      have hd:a/p=b/p:=ih (a/p) hlt fun i=>by rw [←zbs,←zbs];exact h (i+1)
      have e1:=Nat.div_add_mod a p
      have e2:=Nat.div_add_mod b p
      rw [←e1,←e2,hd,h0]
theorem ybQ {p:Nat} (hp:2≤p) {j r:Nat} (h:∀i,j≤i→dg p i r=0):r<p^j:=by
  have hpos:0<p^j:=Nat.pow_pos (by omega)
  have hq:r/p^j=0:=by
    refine ext hp fun i=>?_
    rw [ybo]
    have:=h (j+i) (by omega)
    unfold dg at this ⊢
    rw [Nat.pow_add,←Nat.div_div_eq_div_mul] at this
    exact this
  have:=Nat.div_add_mod r (p^j)
  rw [hq,Nat.mul_zero,Nat.zero_add] at this
  rw [←this]
  exact Nat.mod_lt _ hpos
theorem yfg {p:Nat} (hp:2≤p) {k t d:Nat} (ht:t<p^k) (hd:d<p) (i:Nat):dg p i (t+d*p^k)=if i=k then d else dg p i t:=by
  have hpos:0<p^k:=Nat.pow_pos (by omega)
  unfold dg
  by_cases h1:i<k
  · rw [if_neg (by omega)]
    obtain ⟨c,rfl⟩:∃c,k=i+(c+1):=⟨k-i-1,by omega⟩
    have e:d*p^(i+(c+1))=p^i*(d*p^c*p):=by rw [Nat.pow_add,Nat.pow_succ];ac_rfl
    rw [e,Nat.add_mul_div_left _ _ (Nat.pow_pos (by omega)),Nat.add_mul_mod_self_right]
  · by_cases h2:i=k
    · subst h2
      rw [if_pos rfl,Nat.add_mul_div_right _ _ hpos,Nat.div_eq_of_lt ht,Nat.zero_add,Nat.mod_eq_of_lt hd]
    · rw [if_neg h2]
      have hlt:t+d*p^k<p^i:=by
        have:t+d*p^k<p^(k+1):=by
          rw [Nat.pow_succ]
          calc t+d*p^k<p^k+d*p^k:=by omega
            _=(d+1)*p^k:=by rw [Nat.add_mul];omega
            _≤p*p^k:=Nat.mul_le_mul_right _ hd
            _=p^k*p:=Nat.mul_comm _ _
        exact Nat.lt_of_lt_of_le this (Nat.pow_le_pow_right (by omega) (by omega))
      rw [Nat.div_eq_of_lt hlt,Nat.div_eq_of_lt (Nat.lt_of_lt_of_le ht (Nat.pow_le_pow_right (by omega) (by omega)))]
theorem yfl {p:Nat} {k t d:Nat} (ht:t<p^k) (hd:d<p):t+d*p^k<p^(k+1):=by
  rw [Nat.pow_succ]
  calc t+d*p^k<p^k+d*p^k:=by omega
    _=(d+1)*p^k:=by rw [Nat.add_mul];omega
    _≤p*p^k:=Nat.mul_le_mul_right _ hd
    _=p^k*p:=Nat.mul_comm _ _
noncomputable def zaM (f:Nat→Nat):Nat→Nat:=fun i=>if i=0 then 0 else f (i-1)
noncomputable def yaE (m:Nat) (t f:Nat→Nat):Nat→Nat:=fun i=>if i<m then zaM f i+f (m-1)*t i else 0
noncomputable def tn (m:Nat) (t:Nat→Nat):Nat→(Nat→Nat)→(Nat→Nat)→Nat→Nat
  | 0,_,_=>fun _=>0
  | k+1,f,y=>fun i=>f 0*y i+tn m t k (fun j=>f (j+1)) (yaE m t y) i
noncomputable def ybl (m:Nat) (t:Nat→Nat) (q:Nat) (f:Nat→Nat):Nat→Nat:=fun i=>f i+if q-m≤i∧i<q then f q*t (i-(q-m)) else 0
noncomputable def redF (m:Nat) (t:Nat→Nat):Nat→(Nat→Nat)→(Nat→Nat)
  | 0,f=>f
  | j+1,f=>redF m t j (ybl m t (m+j) f)
noncomputable def ycB:Nat→(Nat→Nat)→(Nat→Nat)→Nat→Nat
  | 0,_,_=>fun _=>0
  | k+1,f,y=>fun i=>f 0*y i+zaM (ycB k (fun j=>f (j+1)) y) i
section
variable {m:Nat} {t:Nat→Nat}
theorem zep (q c:Nat) (f g:Nat→Nat):ybl m t q (fun i=>c*f i+g i)=fun i=>c*ybl m t q f i+ybl m t q g i:=by
  funext i
  unfold ybl
  split
  · dsimp only;rw [Nat.mul_add,Nat.add_mul];ac_rfl
  · simp
theorem zdz (c:Nat):∀(j:Nat) (f g:Nat→Nat),redF m t j (fun i=>c*f i+g i)=fun i=>c*redF m t j f i+redF m t j g i
  | 0,f,g=>rfl
  | j+1,f,g=>by
    show redF m t j (ybl m t (m+j) fun i=>c*f i+g i)=_
    rw [zep,zdz c j]
    rfl
theorem zdj {q:Nat} (hq:m≤q) (f:Nat→Nat):ybl m t (q+1) (zaM f)=zaM (ybl m t q f):=by
  funext i
  unfold ybl zaM
  by_cases h0:i=0
  · subst h0
    rw [if_pos rfl,if_pos rfl]
    rw [if_neg (by omega)]
  · rw [if_neg h0,if_neg h0,if_neg (show ¬ q+1=0 by omega)]
    congr 1
    by_cases h1:q-m≤i-1∧i-1<q
    · rw [if_pos h1,if_pos (by omega),Nat.add_sub_cancel]
      congr 2
      omega
    · rw [if_neg h1,if_neg (by omega)]
theorem ycj (hm:1≤m):∀(j:Nat) (f:Nat→Nat) (i:Nat),i<m→redF m t (j+1) (zaM f) i=yaE m t (redF m t j f) i
  | 0,f,i,hi=>by
    show ybl m t (m+0) (zaM f) i=yaE m t f i
    unfold ybl yaE
    rw [if_pos hi,if_pos (by omega)]
    congr 1
    show zaM f (m+0)*t (i-(m+0-m))=_
    unfold zaM
    rw [if_neg (by omega)]
    simp
  | j+1,f,i,hi=>by
    show redF m t (j+1) (ybl m t (m+(j+1)) (zaM f)) i=yaE m t (redF m t j (ybl m t (m+j) f)) i
    rw [←ycj hm j (ybl m t (m+j) f) i hi,←zdj (by omega)]
    rfl
theorem ydJ:∀(j:Nat) (f:Nat→Nat),(∀q,m≤q→f q=0)→redF m t j f=f
  | 0,f,_=>rfl
  | j+1,f,h=>by
    have e:ybl m t (m+j) f=f:=by
      funext i
      unfold ybl
      rw [h (m+j) (by omega)]
      simp
    show redF m t j (ybl m t (m+j) f)=f
    rw [e]
    exact ydJ j f h
theorem zdc (c:Nat) (f g:Nat→Nat):yaE m t (fun i=>c*f i+g i)=fun i=>c*yaE m t f i+yaE m t g i:=by
  funext i
  unfold yaE zaM
  split
  · split
    · simp [Nat.mul_add,Nat.add_mul,Nat.mul_assoc]
    · dsimp only;rw [Nat.mul_add,Nat.add_mul];ac_rfl
  · simp
theorem zdx:∀(k:Nat) (f y:Nat→Nat),yaE m t (tn m t k f y)=tn m t k f (yaE m t y)
  | 0,f,y=>by
    funext i
    show yaE m t (fun _=>0) i=0
    unfold yaE zaM
    split
    · split <;> simp
    · rfl
  | k+1,f,y=>by
    show yaE m t (fun i=>f 0*y i+tn m t k (fun j=>f (j+1)) (yaE m t y) i)=_
    rw [zdc,zdx k]
    rfl
theorem zdB (hm:1≤m):∀(k:Nat) (f y:Nat→Nat),(∀q,m≤q→y q=0)→∀i,i<m→redF m t k (ycB (k+1) f y) i=tn m t (k+1) f y i
  | 0,f,y,hy,i,hi=>by
    show f 0*y i+zaM (fun _=>0) i=f 0*y i+0
    unfold zaM
    split <;> rfl
  | k+1,f,y,hy,i,hi=>by
    show redF m t (k+1) (fun i=>f 0*y i+zaM (ycB (k+1) (fun j=>f (j+1)) y) i) i=f 0*y i+tn m t (k+1) (fun j=>f (j+1)) (yaE m t y) i
    rw [zdz]
    show f 0*redF m t (k+1) y i+redF m t (k+1) (zaM (ycB (k+1) (fun j=>f (j+1)) y)) i=_
    rw [ydJ (k+1) y hy,ycj hm k _ i hi]
    congr 1
    have e:∀i,i<m→redF m t k (ycB (k+1) (fun j=>f (j+1)) y) i=tn m t (k+1) (fun j=>f (j+1)) y i:=fun i hi=>zdB hm k _ y hy i hi
    rw [←zdx]
    unfold yaE zaM
    rw [if_pos hi,if_pos hi,e (m-1) (by omega)]
    by_cases h0:i=0
    · rw [if_pos h0,if_pos h0]
    · rw [if_neg h0,if_neg h0,e (i-1) (by omega)]
end
theorem zb5 {m:Nat} {t:Nat→Nat}:∀(k:Nat) (f y:Nat→Nat) (i:Nat),(∀j,f j=0)→tn m t k f y i=0
  | 0,_,_,_,_=>rfl
  | k+1,f,y,i,h=>by
    show f 0*y i+tn m t k (fun j=>f (j+1)) (yaE m t y) i=0
    rw [h 0,zb5 k _ _ i fun j=>h (j+1)]
    simp
theorem ybi {p a b c d:Nat} (h1:a%p=c%p) (h2:b%p=d%p):(a+b)%p=(c+d)%p:=by rw [Nat.add_mod,h1,h2,←Nat.add_mod]
theorem zcL {p a b c d:Nat} (h1:a%p=c%p) (h2:b%p=d%p):(a*b)%p=(c*d)%p:=by rw [Nat.mul_mod,h1,h2,←Nat.mul_mod]
theorem zdh {p m:Nat} (hm:1≤m) {t y y':Nat→Nat} (h:∀i,i<m→y i%p=y' i%p) (i:Nat):yaE m t y i%p=yaE m t y' i%p:=by
  unfold yaE zaM
  split
  · refine ybi ?_ (zcL (h (m-1) (by omega)) rfl)
    split
    · rfl
    · exact h (i-1) (by omega)
  · rfl
theorem ybj {p m:Nat} (hm:1≤m) {t:Nat→Nat}:∀(k:Nat) (f y y':Nat→Nat),(∀i,i<m→y i%p=y' i%p)→∀i,i<m→tn m t k f y i%p=tn m t k f y' i%p
  | 0,_,_,_,_,_,_=>rfl
  | k+1,f,y,y',h,i,hi=>ybi (zcL rfl (h i hi)) (ybj hm k _ _ _ (fun j _=>zdh hm h j) i hi)
theorem yb6 (p x:Nat):(fun j=>dg p (j+1) x)=fun j=>dg p j (x/p):=by funext j;exact zbs p j x
theorem zfc (p i x:Nat):dg p i x%p=dg p i x:=by unfold dg;exact Nat.mod_mod _ _
theorem yf6 {p:Nat} (hp:2≤p) (k i x:Nat):dg p i (x%p^k)=if i<k then dg p i x else 0:=by
  by_cases h:i<k
  · rw [if_pos h]
    unfold dg
    obtain ⟨c,rfl⟩:∃c,k=i+(c+1):=⟨k-i-1,by omega⟩
    rw [Nat.pow_add,Nat.mod_mul_right_div_self,Nat.pow_succ,Nat.mul_comm (p^c) p,Nat.mod_mul_right_mod]
  · rw [if_neg h]
    exact zaI hp (Nat.mod_lt _ (Nat.pow_pos (by omega))) (by omega)
theorem zgd {p:Nat} (hp:2≤p) (i x:Nat):dg p i (x*p)=if i=0 then 0 else dg p (i-1) x:=by
  cases i with
  | zero=>rw [ybk,if_pos rfl,Nat.mul_mod_left]
  | succ i=>rw [if_neg (by omega),zbs,Nat.mul_div_cancel _ (by omega)];rfl
theorem zfB {p m x:Nat} (hp:2≤p) (hm:1≤m) (h:x<p^m):x/p^(m-1)=dg p (m-1) x:=by
  unfold dg
  rw [Nat.mod_eq_of_lt]
  obtain ⟨c,rfl⟩:∃c,m=c+1:=⟨m-1,by omega⟩
  exact Nat.div_lt_of_lt_mul (by simpa [Nat.pow_succ] using h)
end Dg
end
section
-- text: MathB
set_option linter.all false
namespace Dg
noncomputable def ofF (p:Nat):Nat→(Nat→Nat)→Nat
  | 0,_=>0
  | m+1,f=>f 0%p+p*ofF p m (fun j=>f (j+1))
theorem yfj {p:Nat} (hp:2≤p):∀(m:Nat) (f:Nat→Nat),ofF p m f<p^m
  | 0,f=>by simp [ofF]
  | m+1,f=>by
    have h:=yfj hp m fun j=>f (j+1)
    have h1:f 0%p<p:=Nat.mod_lt _ (by omega)
    show f 0%p+p*ofF p m (fun j=>f (j+1))<p^(m+1)
    calc f 0%p+p*ofF p m (fun j=>f (j+1))<p+p*ofF p m (fun j=>f (j+1)):=by omega
      _=p*(ofF p m (fun j=>f (j+1))+1):=by rw [Nat.mul_add,Nat.mul_one,Nat.add_comm]
      _≤p*p^m:=Nat.mul_le_mul_left _ h
      _=p^(m+1):=by rw [Nat.pow_succ,Nat.mul_comm]
theorem zea {p:Nat} (hp:2≤p):∀(m:Nat) (f:Nat→Nat) (i:Nat),dg p i (ofF p m f)=if i<m then f i%p else 0
  | 0,f,i=>by simp [ofF,ybo]
  | m+1,f,i=>by
    have h1:f 0%p<p:=Nat.mod_lt _ (by omega)
    cases i with
    | zero =>
      rw [if_pos (by omega),ybk]
      show (f 0%p+p*ofF p m (fun j=>f (j+1)))%p=f 0%p
      rw [Nat.add_mul_mod_self_left,Nat.mod_mod]
    | succ i =>
      rw [zbs]
      show dg p i ((f 0%p+p*ofF p m (fun j=>f (j+1)))/p)=_
      rw [Nat.add_mul_div_left _ _ (by omega),Nat.div_eq_of_lt h1,Nat.zero_add,zea hp m]
      by_cases h:i<m
      · rw [if_pos h,if_pos (by omega)]
      · rw [if_neg h,if_neg (by omega)]
theorem zc6 {p:Nat} (hp:2≤p) {m a b:Nat} (ha:a<p^m) (hb:b<p^m) (h:∀i,i<m→dg p i a=dg p i b):a=b :=
  ext hp fun i=>by
    by_cases hi:i<m
    · exact h i hi
    · rw [zaI hp ha (by omega),zaI hp hb (by omega)]
noncomputable abbrev dgs (p x:Nat):Nat→Nat:=fun i=>dg p i x
noncomputable def up (p m t x:Nat):Nat:=ofF p m (yaE m (dgs p t) (dgs p x))
noncomputable def mulN (p m t:Nat):Nat→Nat→Nat→Nat
  | 0,_,_=>0
  | k+1,x,y=>ofF p m fun i=>x%p*dg p i y+dg p i (mulN p m t k (x/p) (up p m t y))
noncomputable def mul (p m t x y:Nat):Nat:=mulN p m t m x y
section
variable {p m t:Nat} (hp:2≤p) (hm:1≤m)
include hp hm
theorem zey:∀(k x y i:Nat),i<m→dg p i (mulN p m t k x y)=tn m (dgs p t) k (dgs p x) (dgs p y) i%p
  | 0,x,y,i,hi=>by show dg p i 0=0%p;rw [ybo];simp
  | k+1,x,y,i,hi=>by
    show dg p i (ofF p m fun i=>x%p*dg p i y+dg p i (mulN p m t k (x/p) (up p m t y)))=_
    rw [zea hp,if_pos hi]
    show _=(dg p 0 x*dg p i y+tn m (dgs p t) k (fun j=>dg p (j+1) x) (yaE m (dgs p t) (dgs p y)) i)%p
    rw [zey k _ _ i hi,ybk]
    refine ybi rfl ?_
    rw [Nat.mod_mod,yb6]
    refine ybj hm k _ _ _ (fun j hj=>?_) i hi
    show dg p j (up p m t y)%p=_
    unfold up
    rw [zea hp,if_pos hj,Nat.mod_mod]
theorem yfJ:∀(k x y:Nat),mulN p m t k x y<p^m
  | 0,x,y=>Nat.pow_pos (by omega)
  | k+1,x,y=>yfj hp _ _
theorem ybV (x y:Nat):mul p m t x y<p^m:=yfJ hp hm _ _ _
theorem zbH (x y i:Nat) (hi:i<m):dg p i (mul p m t x y)=tn m (dgs p t) m (dgs p x) (dgs p y) i%p:=zey hp hm m x y i hi
theorem yeF {x y r:Nat} (hr:r<p^m) (h:∀i,i<m→dg p i r=tn m (dgs p t) m (dgs p x) (dgs p y) i%p):r=mul p m t x y :=
  zc6 hp hr (ybV hp hm x y) fun i hi=>by rw [h i hi,zbH hp hm x y i hi]
end
section
variable {m:Nat} {t:Nat→Nat}
theorem zdI (c:Nat):∀(k:Nat) (f y z:Nat→Nat),tn m t k f (fun i=>c*y i+z i)=fun i=>c*tn m t k f y i+tn m t k f z i
  | 0,f,y,z=>by funext i;rfl
  | k+1,f,y,z=>by
    funext i
    show f 0*(c*y i+z i)+tn m t k (fun j=>f (j+1)) (yaE m t fun i=>c*y i+z i) i=c*(f 0*y i+tn m t k (fun j=>f (j+1)) (yaE m t y) i)+(f 0*z i+tn m t k (fun j=>f (j+1)) (yaE m t z) i)
    rw [zdc,zdI c k]
    dsimp only
    rw [Nat.mul_add,Nat.mul_add,Nat.mul_left_comm]
    omega
theorem zdm:∀(k l:Nat) (f g y:Nat→Nat),tn m t k f (tn m t l g y)=tn m t l g (tn m t k f y)
  | 0,l,f,g,y=>by
    show (fun _=>0)=tn m t l g (fun _=>0)
    have h:=zdI (m:=m) (t:=t) 0 l g (fun _=>0) (fun _=>0)
    funext i
    have h2:=zdI (m:=m) (t:=t) 1 l g (fun _=>0) (fun _=>0)
    have h3:=congrFun h2 i
    simp at h3
    exact h3.symm
  | k+1,l,f,g,y=>by
    show (fun i=>f 0*tn m t l g y i+tn m t k (fun j=>f (j+1)) (yaE m t (tn m t l g y)) i)=tn m t l g (fun i=>f 0*y i+tn m t k (fun j=>f (j+1)) (yaE m t y) i)
    rw [zdx,zdm k,zdI]
noncomputable def ybD (s:Nat):Nat→Nat:=fun i=>if i=s then 1 else 0
theorem zei {s:Nat} (h:s+1<m):yaE m t (ybD s)=ybD (s+1):=by
  funext i
  unfold yaE zaM ybD
  rw [if_neg (show ¬ m-1=s by omega),Nat.zero_mul,Nat.add_zero]
  by_cases hi:i<m
  · rw [if_pos hi]
    by_cases h0:i=0
    · rw [if_pos h0,if_neg (by omega)]
    · rw [if_neg h0]
      by_cases hs:i-1=s
      · rw [if_pos hs,if_pos (by omega)]
      · rw [if_neg hs,if_neg (by omega)]
  · rw [if_neg hi,if_neg (by omega)]
theorem zez:∀(k s:Nat) (f:Nat→Nat) (i:Nat),s+k≤m→tn m t k f (ybD s) i=if s≤i∧i<s+k then f (i-s) else 0
  | 0,s,f,i,_=>by rw [if_neg (by omega)];rfl
  | k+1,s,f,i,h=>by
    show f 0*ybD s i+tn m t k (fun j=>f (j+1)) (yaE m t (ybD s)) i=_
    cases k with
    | zero =>
      show f 0*ybD s i+0=_
      unfold ybD
      by_cases hi:i=s
      · rw [if_pos hi,if_pos (by omega)];subst hi;simp
      · rw [if_neg hi,if_neg (by omega)];simp
    | succ k =>
      rw [zei (by omega),zez (k+1) (s+1) _ i (by omega)]
      unfold ybD
      by_cases hi:i=s
      · subst hi;rw [if_pos rfl,if_neg (by omega),if_pos (by omega)];simp
      · rw [if_neg hi]
        by_cases h2:s+1≤i∧i<s+1+(k+1)
        · rw [if_pos h2,if_pos (by omega)]
          show f 0*0+f (i-(s+1)+1)=f (i-s)
          rw [Nat.mul_zero,Nat.zero_add];congr 1;omega
        · rw [if_neg h2,if_neg (by omega)];simp
theorem zek (f:Nat→Nat) (i:Nat) (hi:i<m):tn m t m f (ybD 0) i=f i:=by
  rw [zez m 0 f i (by omega),if_pos (by omega),Nat.sub_zero]
end
section
variable {p m t:Nat} (hp:2≤p) (hm:1≤m)
include hp hm
theorem mul_comm (x y:Nat):mul p m t x y=mul p m t y x:=by
  refine zc6 hp (ybV hp hm _ _) (ybV hp hm _ _) fun i hi=>?_
  rw [zbH hp hm _ _ i hi,zbH hp hm _ _ i hi]
  have h1:=ybj (p:=p) hm (t:=dgs p t) m (dgs p x) (dgs p y) (tn m (dgs p t) m (dgs p y) (ybD 0)) (fun j hj=>by rw [zek _ j hj]) i hi
  have h2:=ybj (p:=p) hm (t:=dgs p t) m (dgs p y) (dgs p x) (tn m (dgs p t) m (dgs p x) (ybD 0)) (fun j hj=>by rw [zek _ j hj]) i hi
  rw [h1,h2,zdm]
theorem mul_left_comm (x y z:Nat):mul p m t x (mul p m t y z)=mul p m t y (mul p m t x z):=by
  refine zc6 hp (ybV hp hm _ _) (ybV hp hm _ _) fun i hi=>?_
  rw [zbH hp hm _ _ i hi,zbH hp hm _ _ i hi]
  have h1:=ybj (p:=p) hm (t:=dgs p t) m (dgs p x) (dgs p (mul p m t y z)) (tn m (dgs p t) m (dgs p y) (dgs p z)) (fun j hj=>by show dg p j _%p=_;rw [zbH hp hm _ _ j hj,Nat.mod_mod]) i hi
  have h2:=ybj (p:=p) hm (t:=dgs p t) m (dgs p y) (dgs p (mul p m t x z)) (tn m (dgs p t) m (dgs p x) (dgs p z)) (fun j hj=>by show dg p j _%p=_;rw [zbH hp hm _ _ j hj,Nat.mod_mod]) i hi
  rw [h1,h2,zdm]
theorem mul_assoc (x y z:Nat):mul p m t (mul p m t x y) z=mul p m t x (mul p m t y z):=by
  rw [mul_comm hp hm _ z,mul_left_comm hp hm z x y,mul_comm hp hm z y]
theorem zbK:1<p^m:=by
  have:p^1≤p^m:=Nat.pow_le_pow_right (by omega) hm
  rw [Nat.pow_one] at this;omega
theorem yf4 (i:Nat):dg p i 1=ybD 0 i:=by
  unfold ybD
  cases i with
  | zero=>rw [ybk,if_pos rfl,Nat.mod_eq_of_lt (by omega)]
  | succ i=>rw [if_neg (by omega),zbs,Nat.div_eq_of_lt (by omega),ybo]
theorem mul_one {x:Nat} (hx:x<p^m):mul p m t x 1=x:=by
  refine zc6 hp (ybV hp hm _ _) hx fun i hi=>?_
  rw [zbH hp hm _ _ i hi,show dgs p 1=ybD 0 from funext fun i=>yf4 hp hm i,zek _ i hi,zfc]
theorem zcx {x:Nat} (hx:x<p^m):mul p m t 1 x=x:=by rw [mul_comm hp hm,mul_one hp hm hx]
theorem zero_mul (x:Nat):mul p m t 0 x=0:=by
  refine zc6 hp (ybV hp hm _ _) (Nat.pow_pos (by omega)) fun i hi=>?_
  rw [zbH hp hm _ _ i hi,zb5 _ _ _ _ (fun j=>ybo p j),ybo];simp
theorem mul_zero (x:Nat):mul p m t x 0=0:=by rw [mul_comm hp hm,zero_mul hp hm]
noncomputable def pw (p m t x:Nat):Nat→Nat
  | 0=>1
  | n+1=>mul p m t (pw p m t x n) x
theorem ycP (x n:Nat):pw p m t x n<p^m:=by
  cases n with
  | zero=>exact zbK hp hm
  | succ n=>exact ybV hp hm _ _
theorem zb6 (x a:Nat):∀b,pw p m t x (a+b)=mul p m t (pw p m t x a) (pw p m t x b)
  | 0=>(mul_one hp hm (ycP hp hm x a)).symm
  | b+1=>by
    show mul p m t (pw p m t x (a+b)) x=mul p m t (pw p m t x a) (mul p m t (pw p m t x b) x)
    rw [zb6 x a b,mul_assoc hp hm]
theorem ydG {x:Nat} (hx:x<p^m):pw p m t x 1=x:=zcx hp hm hx
theorem zda (x a:Nat):∀b,pw p m t x (a*b)=pw p m t (pw p m t x a) b
  | 0=>rfl
  | b+1=>by
    rw [Nat.mul_succ,zb6 hp hm,zda x a b];rfl
theorem zdQ:∀n,pw p m t 1 n=1
  | 0=>rfl
  | n+1=>by
    show mul p m t (pw p m t 1 n) 1=1
    rw [zdQ n,mul_one hp hm (zbK hp hm)]
end
end Dg
end
section
-- text: MathC
set_option linter.all false
set_option maxRecDepth 100000
namespace Dg
noncomputable def yfo:List (Nat×Nat×List (Nat×Nat)):=[(2,1,[(1,0)]),(2,2,[(2,2),(3,3),(2,3),(2,0)]),(2,3,[(2,4),(3,7),(2,5),(2,0),(2,6),(2,0),(2,7),(3,5)]),(2,4,[(2,8),(3,15),(2,9),(2,0),(2,10),(7,7),(2,11),(3,13),(2,12),(2,0),(2,13),(3,9),(2,14),(3,11),(2,15),(3,0)]),(3,1,[(2,0)]),(3,2,[(3,3),(4,5),(4,0),(3,5),(3,0),(4,4),(3,4),(3,0),(5,5)]),(3,3,[(3,9),(5,13),(4,16),(3,11),(6,0),(3,0),(3,10),(4,17),(5,14),(3,15),(4,14),(3,0),(3,17),(4,0),(4,13),(3,16),(5,10),(3,0),(3,12),(5,0),(5,17),(3,14),(4,11),(3,0),(3,13),(4,0),(4,10)]),(5,1,[(2,0)]),(5,2,[(5,5),(6,9),(7,0),(6,0),(7,8),(5,9),(7,7),(6,8),(5,0),(6,0),(5,8),(6,0),(5,0),(6,7),(9,9),(5,7),(8,0),(5,0),(8,9),(6,6),(5,6),(8,8),(7,9),(5,0),(7,0)]),(7,1,[(3,0)]),(11,1,[(2,0)]),(13,1,[(2,0)]),(2,5,[(2,16),(3,31),(2,17),(7,13),(2,18),(2,0),(2,19),(3,29),(2,20),(2,0),(2,21),(3,25),(2,22),(3,27),(2,23),(2,0),(2,24),(7,11),(2,25),(3,17),(2,26),(3,19),(2,27),(2,0),(2,28),(3,23),(2,29),(2,0),(2,30),(2,0),(2,31),(3,21)]),(2,6,[(2,32),(3,63),(2,33),(2,0),(2,34),(11,11),(2,35),(3,61),(2,36),(3,0),(2,37),(3,57),(2,38),(3,59),(2,39),(7,25),(2,40),(13,13),(2,41),(3,49),(2,42),(3,51),(2,43),(3,0),(2,44),(3,55),(2,45),(2,0),(2,46),(7,31),(2,47),(3,53),(2,48),(2,0),(2,49),(3,33),(2,50),(3,35),(2,51),(2,0),(2,52),(3,39),(2,53),(7,21),(2,54),(2,0),(2,55),(3,37),(2,56),(3,47),(2,57),(2,0),(2,58),(3,0),(2,59),(3,45),(2,60),(7,19),(2,61),(3,41),(2,62),(3,43),(2,63),(11,13)]),(7,2,[(7,7),(8,13),(10,11),(8,0),(9,12),(8,0),(9,0),(7,13),(9,0),(8,12),(9,0),(7,0),(10,10),(9,11),(7,12),(9,10),(7,0),(8,11),(7,0),(8,0),(13,13),(7,11),(8,0),(7,0),(9,9),(8,10),(12,13),(8,0),(7,10),(11,0),(7,0),(12,12),(11,13),(8,9),(11,0),(7,9),(11,12),(7,0),(10,13),(7,0),(10,0),(8,8),(7,8),(10,0),(9,13),(10,0),(7,0),(11,11),(10,12)]),(61,1,[(2,0)]),(17,1,[(3,0)]),(19,1,[(2,0)]),(23,1,[(5,0)]),(29,1,[(2,0)]),(31,1,[(3,0)]),(37,1,[(2,0)]),(41,1,[(6,0)]),(43,1,[(3,0)]),(47,1,[(5,0)]),(53,1,[(2,0)]),(59,1,[(2,0)])]
noncomputable def menu:List (Nat×Nat):=yfo.map fun c=>(c.1,c.2.1)
noncomputable def zbe (p m t b:Nat):Nat→Nat→List Nat
  | _,0=>[]
  | x,n+1=>x::zbe p m t b (mul p m t x b) n
noncomputable def lowB (p m t b:Nat):Bool:=((zbe p m t b 1 (p^m-1)).drop 1).contains 1
noncomputable def zeg (p m t b:Nat):Bool:=(List.range b).all (fun c=>c==0||lowB p m t c)&&!lowB p m t b&&decide (0<b)&&(List.range (p^m)).all (fun y=>y==0||(zbe p m t b 1 (p^m-1)).contains y)&&(zbe p m t b 1 (p^m)).getLast?==some 1&&decide (b<p^m)
noncomputable def yd4 (p m t:Nat) (c:Nat×Nat):Bool:=if c.2=0 then zeg p m t c.1 else decide (0<c.1∧c.1<p^m∧c.1<p^(m/2+1)∧c.2<p^m)&&mul p m t c.1 c.2==0
noncomputable def yc7 (p m:Nat):Nat→List (Nat×Nat)→Bool
  | _,[]=>true
  | t,c::cs=>yd4 p m t c&&yc7 p m (t+1) cs
noncomputable def zgg:Bool:=yfo.all fun c=>yc7 c.1 c.2.1 0 c.2.2
theorem yf1:zgg=true:=by decide +kernel
theorem yb2 {p m t b:Nat}:∀(n k i:Nat),i<n→(zbe p m t b (pw p m t b k) n)[i]?=some (pw p m t b (k+i))
  | 0,k,i,h=>absurd h (Nat.not_lt_zero _)
  | n+1,k,0,h=>rfl
  | n+1,k,i+1,h=>by
    show (zbe p m t b (pw p m t b (k+1)) n)[i]?=_
    rw [yb2 n (k+1) i (by omega),show k+1+i=k+(i+1) by omega]
theorem yb7 {p m t b:Nat}:∀(n x:Nat),(zbe p m t b x n).length=n
  | 0,x=>rfl
  | n+1,x=>by show (zbe p m t b _ n).length+1=_;rw [yb7 n]
structure Prim (p m t b:Nat):Prop where
  lt:b<p^m
  round:pw p m t b (p^m-1)=1
  all:∀y,0<y→y<p^m→∃i,i<p^m-1∧pw p m t b i=y
  pos:0<b
  min:∀i,0<i→i<p^m-1→pw p m t b i≠1
  low:∀c,0<c→c<b→∃i,0<i∧i<p^m-1∧pw p m t c i=1
theorem zfj {p m t b:Nat}:lowB p m t b=true↔∃i,0<i∧i<p^m-1∧pw p m t b i=1:=by
  unfold lowB
  rw [List.contains_iff_mem,List.mem_iff_getElem?]
  constructor
  · rintro ⟨j,h⟩
    rw [List.getElem?_drop] at h
    have hl:1+j<p^m-1:=by have:=(List.getElem?_eq_some_iff.mp h).1;rw [yb7] at this;exact this
    have g:=yb2 (p:=p) (m:=m) (t:=t) (b:=b) (p^m-1) 0 (1+j) hl
    rw [show pw p m t b 0=1 from rfl,h] at g
    exact ⟨1+j,by omega,hl,by simpa using (Option.some.inj g).symm⟩
  · rintro ⟨i,h0,hi,e⟩
    refine ⟨i-1,?_⟩
    rw [List.getElem?_drop,show 1+(i-1)=i by omega]
    have g:=yb2 (p:=p) (m:=m) (t:=t) (b:=b) (p^m-1) 0 i hi
    rw [show pw p m t b 0=1 from rfl,Nat.zero_add,e] at g
    exact g
theorem zcs {p m t b:Nat} (hq:0<p^m) (h:zeg p m t b=true):Prim p m t b:=by
  unfold zeg at h
  simp only [Bool.and_eq_true] at h
  obtain ⟨⟨⟨⟨⟨k1,k2⟩,k3⟩,h1⟩,h2⟩,h3⟩:=h
  refine ⟨of_decide_eq_true h3,?_,fun y hy hy2=>?_,of_decide_eq_true k3,fun i hi hi2 e=>?_,fun c hc hc2=>?_⟩
  · have e:(zbe p m t b 1 (p^m)).getLast?=some 1:=by simpa using h2
    rw [List.getLast?_eq_getElem?,yb7] at e
    have g:=yb2 (p:=p) (m:=m) (t:=t) (b:=b) (p^m) 0 (p^m-1) (by omega)
    rw [show pw p m t b 0=1 from rfl] at g
    rw [g] at e
    simpa using Option.some.inj e
  · rw [List.all_eq_true] at h1
    have g:=h1 y (List.mem_range.mpr hy2)
    rw [Bool.or_eq_true] at g
    rcases g with g|g
    · have:y=0:=by simpa using g
      omega
    · have g:y∈zbe p m t b 1 (p^m-1):=List.contains_iff_mem.mp g
      obtain ⟨i,hi,e⟩:=List.mem_iff_getElem.mp g
      rw [yb7] at hi
      have g2:=yb2 (p:=p) (m:=m) (t:=t) (b:=b) (p^m-1) 0 i hi
      rw [show pw p m t b 0=1 from rfl,List.getElem?_eq_getElem (by rw [yb7];exact hi),e] at g2
      exact ⟨i,hi,by simpa using (Option.some.inj g2).symm⟩
  · have:=zfj.mpr ⟨i,hi,hi2,e⟩
    rw [this] at k2
    cases k2
  · have g:=List.all_eq_true.mp k1 c (List.mem_range.mpr hc2)
    rw [Bool.or_eq_true] at g
    rcases g with g|g
    · have:c=0:=by simpa using g
      omega
    · exact zfj.mp g
theorem zbO {p m:Nat}:∀(cs:List (Nat×Nat)) (t i:Nat) (c:Nat×Nat),yc7 p m t cs=true→cs[i]?=some c→yd4 p m (t+i) c=true
  | [],t,i,c,_,h=>by simp at h
  | d::cs,t,0,c,h,e=>by
    have h:(yd4 p m t d&&yc7 p m (t+1) cs)=true:=h
    rw [Bool.and_eq_true] at h
    cases e
    exact h.1
  | d::cs,t,i+1,c,h,e=>by
    have h:(yd4 p m t d&&yc7 p m (t+1) cs)=true:=h
    rw [Bool.and_eq_true] at h
    have g:=zbO cs (t+1) i c h.2 (by simpa using e)
    rw [show t+(i+1)=t+1+i by omega];exact g
theorem ye2 (p t x y:Nat):mul p 1 t x y=mul p 1 0 x y:=rfl
theorem yb0 (p t x:Nat):∀n,pw p 1 t x n=pw p 1 0 x n
  | 0=>rfl
  | n+1=>by
    show mul p 1 t (pw p 1 t x n) x=mul p 1 0 (pw p 1 0 x n) x
    rw [yb0 p t x n,ye2]
structure Good (p m t:Nat):Prop where
  mem:(p,m)∈menu
  top:t<p^m
  no:m=1∨∀x y,0<x→x<p^m→x<p^(m/2+1)→0<y→y<p^m→mul p m t x y≠0
noncomputable def yeY:Bool:=yfo.all fun c=>decide (2≤c.1∧1≤c.2.1∧c.1^c.2.1≤64)&&(if c.2.1=1 then decide (c.2.2.length=1)&&c.2.2.all (fun d=>d.2==0) else decide (c.2.2.length=c.1^c.2.1))
theorem zcV:yeY=true:=by decide +kernel
theorem zbf {p m:Nat} (h:(p,m)∈menu):2≤p∧1≤m∧p^m≤64:=by
  obtain ⟨c,hc,e⟩:=List.mem_map.mp h
  cases e
  have g:=List.all_eq_true.mp zcV c hc
  rw [Bool.and_eq_true] at g
  exact of_decide_eq_true g.1
theorem Good.prim {p m t:Nat} (h:Good p m t):∃b,Prim p m t b:=by
  obtain ⟨c,hc,e⟩:=List.mem_map.mp h.mem
  obtain ⟨p',m',cs⟩:=c
  obtain ⟨rfl,rfl⟩:p'=p∧m'=m:=by simpa using e
  have hs:=zbf h.mem
  have hq:0<p'^m':=Nat.pow_pos (by omega)
  have g:=List.all_eq_true.mp zcV _ hc
  have a:=List.all_eq_true.mp yf1 _ hc
  rw [Bool.and_eq_true] at g
  have g:=g.2
  dsimp only at g a
  by_cases h1:m'=1
  · subst h1
    rw [if_pos rfl,Bool.and_eq_true] at g
    have hl:cs.length=1:=of_decide_eq_true g.1
    obtain ⟨c,rfl⟩:∃c,cs=[c]:=by
      cases cs with
      | nil=>simp at hl
      | cons c r=>cases r with
        | nil=>exact ⟨c,rfl⟩
        | cons d r=>simp at hl
    have a1:=zbO [c] 0 0 c a rfl
    have c0:c.2=0:=by simpa using List.all_eq_true.mp g.2 c (by simp)
    unfold yd4 at a1
    rw [if_pos c0] at a1
    have P:=zcs hq a1
    refine ⟨c.1,P.lt,?_,fun y hy hy2=>?_,P.pos,fun i h1 h2=>?_,fun d h1 h2=>?_⟩
    · rw [yb0];exact P.round
    · obtain ⟨i,hi,e⟩:=P.all y hy hy2
      exact ⟨i,hi,by rw [yb0];exact e⟩
    · rw [yb0];exact P.min i h1 h2
    · obtain ⟨i,a,b,e⟩:=P.low d h1 h2
      exact ⟨i,a,b,by rw [yb0];exact e⟩
  · rw [if_neg h1] at g
    have hl:cs.length=p'^m':=of_decide_eq_true g
    have ht:t<cs.length:=by rw [hl];exact h.top
    have a1:=zbO cs 0 t cs[t] a (List.getElem?_eq_getElem ht)
    rw [Nat.zero_add] at a1
    unfold yd4 at a1
    by_cases c0:cs[t].2=0
    · rw [if_pos c0] at a1
      exact ⟨_,zcs hq a1⟩
    · rw [if_neg c0,Bool.and_eq_true] at a1
      have b:=of_decide_eq_true a1.1
      rcases h.no with h2|h2
      · exact absurd h2 h1
      · exact absurd (by simpa using a1.2) (h2 _ _ b.1 b.2.1 b.2.2.1 (by omega) b.2.2.2)
section
variable {p m t:Nat} (G:Good p m t)
include G
theorem Good.hp:2≤p:=(zbf G.mem).1
theorem Good.hm:1≤m:=(zbf G.mem).2.1
theorem Good.hq:p^m≤64:=(zbf G.mem).2.2
theorem Good.fermat {x:Nat} (h0:0<x) (hx:x<p^m):pw p m t x (p^m-1)=1:=by
  obtain ⟨b,P⟩:=G.prim
  obtain ⟨i,_,rfl⟩:=P.all x h0 hx
  rw [←zda G.hp G.hm,Nat.mul_comm,zda G.hp G.hm,P.round,zdQ G.hp G.hm]
theorem Good.inj {b:Nat} (P:Prim p m t b):∀i j,i<p^m-1→j<p^m-1→pw p m t b i=pw p m t b j→i=j:=by
  have key:∀i j,i<j→j<p^m-1→pw p m t b i≠pw p m t b j:=by
    intro i j hij hj e
    have hp:=G.hp
    have hm:=G.hm
    have h1:mul p m t (pw p m t b (p^m-1-i)) (pw p m t b i)=1:=by rw [←zb6 hp hm,show p^m-1-i+i=p^m-1 by omega,P.round]
    have h2:mul p m t (pw p m t b (p^m-1-i)) (pw p m t b j)=pw p m t b (j-i):=by
      rw [show j=i+(j-i) by omega,zb6 hp hm,←mul_assoc hp hm,h1,zcx hp hm (ycP hp hm _ _),show i+(j-i)-i=j-i by omega]
    rw [←e,h1] at h2
    exact P.min (j-i) (by omega) (by omega) h2.symm
  intro i j hi hj e
  rcases Nat.lt_trichotomy i j with h|h|h
  · exact absurd e (key i j h hj)
  · exact h
  · exact absurd e.symm (key j i h hi)
theorem Good.pw_mod {x:Nat} (h0:0<x) (hx:x<p^m) (n:Nat):pw p m t x (n%(p^m-1))=pw p m t x n:=by
  have e:=Nat.div_add_mod n (p^m-1)
  have g:pw p m t x n=mul p m t (pw p m t x ((p^m-1)*(n/(p^m-1)))) (pw p m t x (n%(p^m-1))):=by rw [←zb6 G.hp G.hm,e]
  rw [g,zda G.hp G.hm,G.fermat h0 hx,zdQ G.hp G.hm,zcx G.hp G.hm (ycP G.hp G.hm _ _)]
end
end Dg
end
section
-- text: MathD
set_option linter.all false
namespace Dg
section
variable {p m t:Nat} (hp:2≤p) (hm:1≤m)
include hp hm
end
section
variable {p m t:Nat} (hp:2≤p) (hm:1≤m)
include hp hm
end
end Dg
end
section
-- text: MathE
set_option linter.all false
namespace Dg
section
variable {p m t:Nat} (hp:2≤p) (hm:1≤m)
include hp hm
end
end Dg
end
section
-- text: MathF
set_option Elab.async false
set_option linter.all false
set_option maxRecDepth 100000
set_option maxHeartbeats 4000000
namespace Dg
section
variable {p m t:Nat} (G:Good p m t)
include G
end
end Dg
end
section
-- text: ExtRd
set_option Elab.async false
set_option linter.all false
set_option maxRecDepth 100000
namespace L2
open PySem PySem.Spec PyProof.Rows
section
variable {X:Cx}
end
end L2
end
section
-- text: ExtRh
set_option Elab.async false
set_option linter.all false
set_option maxRecDepth 100000
set_option maxHeartbeats 4000000
namespace L2
open PySem PySem.Spec PyProof.Rows
noncomputable def Exc (h:Heap) (e C:Addr) (tb:Option Addr):Prop:=∃oe vs,h.get? e=some oe∧oe.cls = .ref C∧oe.dict=none∧oe.data = .fields vs∧
  match tb with
  | none=>vs[1]?=some .none
  | some T=>vs[1]?=some (.ref T)∧T≠e∧∃oT ts,h.get? T=some oT∧oT.data = .fields ts∧ts[3]?=some .none
structure ydb (l:List Env) (e C:Addr) (tb:Option Addr) (h h':Heap):Prop where
  exc:∃T,h.objs.size≤T∧Exc h' e C (some T)
  keep:∀b o,b≠e→tb≠some b→b∉frs l→h.get? b=some o→h'.get? b=some o
  slot:∀b o,b≠e→tb≠some b→h.get? b=some o→∃sl,h'.get? b=some { o with slots:=sl }
section
variable {M:Model} {A:Around} {E:Value→Shared→Prop} {s:Shared}
theorem zcZ {base:Heap} {env:Env} {outer:List Env} {L e C:Addr} {oe:Obj} {vs:Array Value} {head:Value} {hadNext:Bool} {Q:Unit→Shared→Prop}
    (hfr:A.frames=some (env::outer)) (hl:s.heap.FunFrames base (env::outer)) (hf:env.frame=some L)
    (he:s.heap.get? e=some oe) (hc:oe.cls = .ref C) (hdc:oe.dict=none) (hd:oe.data = .fields vs) (hv:1<vs.size)
    (h:∀h',ydb (env::outer) e C none s.heap h'→Q () { s with heap:=h' }) :
    wpAny M A (do let a ←frameOf env;let pl ←entryPlaceOf L hadNext;let b ←EntryCells.newEntry head a .none (rawInt L) .none pl;setField (.ref e) 1 b) (fun _ s'=>wpAny M A (setFlight (.ref e) none) Q E s') E s:=by
  have hene:e∉frs (env::outer):=fun hm=>by
    obtain ⟨_,o,ho,hnf⟩:=hl.mem hm
    rw [he] at ho;cases ho;exact hnf vs hd
  refine wpAny_bind (wpAny_frameOf_fun hfr hl hf fun h₁ hs₁=>?_)
  refine wpAny_bind (wpAny_entryPlaceOf fun pl hpl=>?_)
  unfold EntryCells.newEntry newFields
  refine wpAny_bind (wpAny_newObj_type ?_ (hpl.sizeOk5 _ _ _ _ _))
  have he1:h₁.get? e=some oe:=(hs₁.2.1 e hene).trans he
  have nTe:h₁.objs.size≠e:=Nat.ne_of_gt (Heap.lt_size he1)
  obtain ⟨ts,hts,ht3⟩:∃ts:Array Value,([head,.ref L,.none,rawInt L,.none]++(if pl.isEmpty then List.replicate 6 Value.none else pl)).toArray=ts∧3<ts.size:=⟨_,rfl,by simp only [List.size_toArray,List.length_append,List.length_cons,List.length_nil];omega⟩
  rw [hts]
  have hT2:(h₁.push { cls:=.type "traceback",dict:=none,data:=.fields ts }).get? h₁.objs.size=some { cls:=.type "traceback",dict:=none,data:=.fields ts }:=Heap.get?_push_size _ rfl
  have he2:=Heap.get?_push_of_some (h:=h₁) { cls:=.type "traceback",dict:=none,data:=.fields ts } he1
  have k2:∀b o,h₁.get? b=some o→(h₁.push { cls:=.type "traceback",dict:=none,data:=.fields ts }).get? b=some o:=fun b o e=>Heap.get?_push_of_some _ e
  generalize h₁.push { cls:=.type "traceback",dict:=none,data:=.fields ts }=h₂ at hT2 he2 k2 ⊢
  refine wpAny_setField he2 hd hv ?_
  have hd3:=Obj.data_mapFields hd (·.setIfInBounds 1 (Value.ref h₁.objs.size))
  have he3:=Heap.get?_update_self (Obj.mapFields (·.setIfInBounds 1 (Value.ref h₁.objs.size))) he2 (Obj.isFreed_of_fields hd3)
  have o3:∀b,b≠e→(h₂.update e (Obj.mapFields (·.setIfInBounds 1 (Value.ref h₁.objs.size)))).get? b=h₂.get? b:=fun b hb=>Heap.get?_update_other _ _ (Ne.symm hb)
  have hT3:=(o3 _ nTe).trans hT2
  have hc3:(Obj.mapFields (·.setIfInBounds 1 (Value.ref h₁.objs.size)) oe).cls = .ref C:=(Obj.cls_mapFields _ _).trans hc
  have hdc3:(Obj.mapFields (·.setIfInBounds 1 (Value.ref h₁.objs.size)) oe).dict=none:=by
    obtain ⟨c,d,dt,sl⟩:=oe;dsimp only at hd hdc;subst hd;subst hdc;rfl
  generalize h₂.update e (Obj.mapFields (·.setIfInBounds 1 (Value.ref h₁.objs.size)))=h₃ at he3 o3 hT3 ⊢
  unfold setFlight
  refine wpAny_bind (wpAny_field he3 hd3 (x:=.ref h₁.objs.size) (by simp [hv]) ?_)
  rw [if_pos (show (Value.ref h₁.objs.size != Value.none)=true from by simp)]
  refine wpAny_setField hT3 rfl ht3 (h _ ?_)
  have hdT:=Obj.data_mapFields (o:={ cls:=.type "traceback",dict:=none,data:=.fields ts }) rfl (·.setIfInBounds 3 ((none:Option Addr).elim Value.none fun f=>rawInt f))
  have hT4:=Heap.get?_update_self (Obj.mapFields (·.setIfInBounds 3 ((none:Option Addr).elim Value.none fun f=>rawInt f))) hT3 (Obj.isFreed_of_fields hdT)
  have o4:∀b,b≠h₁.objs.size→(h₃.update h₁.objs.size (Obj.mapFields (·.setIfInBounds 3 ((none:Option Addr).elim Value.none fun f=>rawInt f)))).get? b=h₃.get? b:=fun b hb=>Heap.get?_update_other _ _ (Ne.symm hb)
  have up:∀b o,b≠e→h₁.get? b=some o→(h₃.update h₁.objs.size (Obj.mapFields (·.setIfInBounds 3 ((none:Option Addr).elim Value.none fun f=>rawInt f)))).get? b=some o:=fun b o hb e1 =>
    (o4 b (Nat.ne_of_lt (Heap.lt_size e1))).trans ((o3 b hb).trans (k2 b o e1))
  refine ⟨⟨h₁.objs.size,by rw [hs₁.1];exact Nat.le_refl _,_,_,(o4 e (Ne.symm nTe)).trans he3,hc3,hdc3,hd3,by simp [hv],nTe,_,_,hT4,hdT,by simp [ht3]⟩,fun b o hb _ hn e1=>up b o hb ((hs₁.2.1 b hn).trans e1),fun b o hb _ e1=>?_⟩
  obtain ⟨sl,hs⟩:=hs₁.2.2 b o e1
  exact ⟨sl,up b _ hb hs⟩
theorem ydQ {base:Heap} {env:Env} {outer:List Env} {L e C:Addr} {tb:Option Addr} {Q:Unit→Shared→Prop}
    (hfr:A.frames=some (env::outer)) (hl:s.heap.FunFrames base (env::outer)) (hf:env.frame=some L) (x:Exc s.heap e C tb)
    (h:∀h',ydb (env::outer) e C tb s.heap h'→Q () { s with heap:=h' }):wpAny M A (noteFrame (.ref e) env) (fun _ s'=>wpAny M A (setFlight (.ref e) none) Q E s') E s:=by
  obtain ⟨oe,vs,he,hc,hdc,hd,ht⟩:=x
  unfold noteFrame
  simp only [hf]
  cases tb with
  | none =>
    have h1:vs[1]?=some .none:=ht
    have hv:=(Array.getElem?_eq_some_iff.mp h1).1
    refine wpAny_bind (wpAny_field he hd h1 ?_)
    rw [if_neg (by decide)]
    exact zcZ hfr hl hf he hc hdc hd hv h
  | some T =>
    obtain ⟨h1,nTe,oT,ts,hT,hdT,h3⟩:=ht
    have hv:=(Array.getElem?_eq_some_iff.mp h1).1
    have h3v:=(Array.getElem?_eq_some_iff.mp h3).1
    refine wpAny_bind (wpAny_field he hd h1 ?_)
    rw [if_pos (show (Value.ref T != Value.none)=true from by simp)]
    refine wpAny_bind (wpAny_field hT hdT h3 ?_)
    rw [if_neg (show ¬ ((Value.none==rawInt L)=true) from by simp [rawInt])]
    refine wpAny_bind (wpAny_setField hT hdT h3v ?_)
    have other:∀b,b≠T→(s.heap.update T (Obj.mapFields (·.setIfInBounds 3 Value.none))).get? b=s.heap.get? b:=fun b hb=>Heap.get?_update_other _ _ (Ne.symm hb)
    have szT:(s.heap.update T (Obj.mapFields (·.setIfInBounds 3 Value.none))).objs.size=s.heap.objs.size:=(Heap.SameBut.update ..).1
    have noRecord:∀b o,s.heap.get? b=some o→(∀vs,o.data≠.fields vs)→b≠T:=fun b o hb hnf q=>by
      rw [q,hT] at hb;injection hb with hb;subst hb;exact hnf ts hdT
    refine zcZ hfr (hl.of_keeps fun b o hb hnf=>⟨o,(other b (noRecord b o hb hnf)).trans hb,rfl⟩) hf ((other e (Ne.symm nTe)).trans he) hc hdc hd hv fun h' y=>h h' ?_
    obtain ⟨⟨T2,a1,a2⟩,k,sl⟩:=y
    have a1':s.heap.objs.size≤T2:=by rw [←szT];exact a1
    refine ⟨⟨T2,a1',a2⟩,fun b o hb hb2 hn e1=>?_,fun b o hb hb2 e1=>?_⟩
    · exact k b o hb (fun z=>nomatch z) hn ((other b fun z=>hb2 (by rw [z])).trans e1)
    · exact sl b o hb (fun z=>nomatch z) ((other b fun z=>hb2 (by rw [z])).trans e1)
end
noncomputable def CX1 (P:Program) (w:World):CXT:=fun outer H s E e s'=>∃a C T H',e = .ref a∧s'.os=s.os∧AllBare s'.gens∧Un (frs outer) [] H H' s.heap s'.heap∧HOk P w H' s'.heap∧Exc s'.heap a C (some T)∧
  H' a=none∧H' T=none∧s.heap.get? a=none∧s.heap.get? T=none∧E (.ref C) none H'
theorem HOk.left {P:Program} {w:World} {H:Hp} {h h':Heap} (x:HOk P w H h) (k:∀b o,H b≠none→h.get? b=some o→h'.get? b=some o):HOk P w H h':=fun a o e =>
  (x a o e).stay (fun b u hb q=>k b u (by rcases hb with rfl|hb <;> (rw [‹H _=_›];exact fun z=>nomatch z)) q) (fun _ q=>q) fun _ _ q=>q
theorem ydb.un {P:Program} {w:World} {env:Env} {outer:List Env} {e C:Addr} {tb:Option Addr} {H0 H:Hp} {h0 h h':Heap} {fs:List Addr} (y:ydb (env::outer) e C tb h h') (u:Un fs [] H0 H h0 h) (hok:HOk P w H h)
    (ne:h0.get? e=none) (nt:∀T,tb=some T→h0.get? T=none) (He:H e=none) (Ht:∀T,tb=some T→H T=none) (Hf:∀b∈frs (env::outer),H b=none)
    (hfs:∀b o,h0.get? b=some o→b∈frs (env::outer)→b∈fs):Un fs [] H0 H h0 h'∧HOk P w H h':=by
  have nb:∀b o,h0.get? b=some o→b≠e∧tb≠some b:=fun b o q=>⟨fun z=>(by rw [z,ne] at q;cases q),fun z=>(by rw [nt b z] at q;cases q)⟩
  refine ⟨⟨fun b o q n hb hx=>?_,fun b o q n hb hx=>?_,fun b o q n hx=>u.free b o q n hx,fun b o q hx=>?_,u.tups,u.frzs,u.tbls⟩,hok.left fun b o hb q=>?_⟩
  · exact y.keep b o (nb b o q).1 (nb b o q).2 (fun z=>hb (hfs b o q z)) (u.keep b o q n hb hx)
  · obtain ⟨sl,e1⟩:=u.slot b o q n hb hx
    obtain ⟨sl',e2⟩:=y.slot b _ (nb b o q).1 (nb b o q).2 e1
    exact ⟨sl',e2⟩
  · obtain ⟨o',e1⟩:=u.there b o q hx
    obtain ⟨sl',e2⟩:=y.slot b _ (nb b o q).1 (nb b o q).2 e1
    exact ⟨_,e2⟩
  · exact y.keep b o (fun z=>hb (by rw [z];exact He)) (fun z=>hb (Ht b z)) (fun z=>hb (Hf b z)) q
theorem yde {env:Env} {outer:List Env} {L b:Addr} (hf:env.frame=some L):b∈frs (env::outer)↔b=L∨b∈frs outer:=by
  unfold frs;rw [List.filterMap_cons,hf];exact List.mem_cons
section
variable {P:Program} {w:World} {K:PySem.W.Frag} {mg:Str→Option Value} {base:Heap} {N:List Str} {qual:Str} {scope:Scope} {f:Addr} {cd:Value} {A:Around} {outer:List Env} {s₀:Shared} {H₀:Hp} {E:XK}
theorem yeU {pins:List (Addr×Obj)} {σ:St} {H:Hp} {s:Shared} {a C:Addr} {tb:Option Addr} (I:Inv (cxOf (CX1 P w) P w K mg base N qual scope f cd A outer s₀ H₀ E) pins σ H s) (x:Exc s.heap a C tb)
    (ha:H a=none) (ht:∀T,tb=some T→H T=none) (na:s₀.heap.get? a=none) (nt:∀T,tb=some T→s₀.heap.get? T=none) (q:E (.ref C) none H) :
    (cxOf (CX1 P w) P w K mg base N qual scope f cd A outer s₀ H₀ E).xe (.ref a) s:=by
  have hs:=I.stack
  have hF:=I.stkFree
  refine wpAny_bind (ydQ (base:=base) I.ok.frames hs rfl x fun h' y=>?_)
  have z:=y.un (P:=P) (w:=w) (fs:=frs outer) (H0:=H₀) (H:=H) (h0:=s₀.heap) I.base I.hok na nt ha ht hF fun b o q hb=>by
    rcases (yde rfl).mp hb with e|e
    · have:b<s₀.heap.objs.size:=Heap.lt_size q
      rw [e] at this
      exact absurd this (Nat.lt_irrefl _)
    · exact e
  obtain ⟨T,hT,x'⟩:=y.exc
  exact ⟨a,C,T,H,rfl,I.os,I.bare,z.1,z.2,x',ha,I.hok.fresh hT,na,Heap.get?_none_of_le (Nat.le_trans I.sz hT),q⟩
end
end L2
end
section
-- text: ExtRi
set_option Elab.async false
set_option linter.all false
set_option maxRecDepth 100000
set_option maxHeartbeats 4000000
namespace L2
open PySem PySem.Spec PyProof.Rows
noncomputable abbrev vmro:List Value:=[.type "ValueError",.type "Exception",.type "BaseException",.type "object"]
noncomputable def ybz (K:PySem.W.Frag) (C:Addr):Bool:=PySem.W.excIn K C vmro "ValueError.__new__"&&(PySem.W.clsIn K C).isSome &&
  (PySem.W.findIn K (.ref C) "__getattribute__"==some (some (.builtin "BaseException.__getattribute__"))&&PySem.W.findIn K (.ref C) "__getattr__"==some none&&PySem.W.findIn K (.ref C) "__class__"==some (some (.builtin "object.__class__"))) &&
  (PySem.W.mroIn K C (.type "object")==some true&&PySem.W.mroIn K C (.type "BaseException")==some true&&PySem.W.kitOne K (.ref C) (.type "ValueError")==some true) &&
  (PySem.W.specialIn K (.builtin "object.__class__") "__get__"==some (some (.builtin "getset_descriptor.__get__"))&&PySem.W.takesIn K (.builtin "object.__class__")==some true)
theorem zfK {K:PySem.W.Frag} {h:Heap} {mg:Str→Option Value} {x:Str} {C:Addr} (X:K.In h) (e:mg x=some (.ref C)) (q:PySem.W.excIn K C vmro "ValueError.__new__"=true):OwnCls x C vmro "ValueError.__new__" mg h:=by
  refine ⟨e,?_⟩
  unfold PySem.W.excIn at q
  split at q
  · rename_i dd cd sl ho
    split at q
    · rename_i C' bm k0 k1 k2 k3 n k5 hm hs
      simp only [Bool.and_eq_true,beq_iff_eq,Bool.not_eq_true'] at q
      obtain ⟨⟨⟨⟨⟨rfl,rfl⟩,hdel⟩,ht⟩,hok⟩,hni⟩:=q
      obtain ⟨nm,bs,mro,ns,qn,hd,sn,sub,ab,col,del⟩:=cd
      dsimp only at hm hdel hok hni
      subst hm hdel
      have hsl:sl = #[k0,k1,k2,k3,some (.builtin "ValueError.__new__"),k5]:=by
        obtain ⟨l⟩:=sl
        simp only at hs
        rw [hs]
      subst hsl
      exact ⟨bm,ns,nm,qn,bs,hd,sn,sub,ab,col,dd,k0,k1,k2,k3,k5,_,X _ _ ho,.of_isNs (PySem.W.isNs_of_in X hok),PySem.W.nsMap_none_of_in X hok hni,PySem.W.tail_of_in X ht⟩
    · cases q
  · cases q
theorem yaZ.there {P:Program} {w:World} {H:Hp} {h:Heap} {a:Addr} {o:HO} (x:yaZ P w H h a o):∃u,h.get? a=some u:=by
  induction o with
  | lst xs=>obtain ⟨_,_,_,_,e⟩:=x;exact ⟨_,e⟩
  | tup xs=>obtain ⟨_,_,_,_,e,_⟩:=x;exact ⟨_,e⟩
  | dK kvs=>obtain ⟨_,_,_,_,o,_,_,e,_⟩:=x;exact ⟨_,e⟩
  | dT kvs=>obtain ⟨_,_,_,_,o,_,_,e,_⟩:=x;exact ⟨_,e⟩
  | set S n=>obtain ⟨o,_,_,_,e,_⟩:=x;exact ⟨_,e⟩
  | ins C dx fs=>obtain ⟨_,_,_,e,_⟩:=x;exact ⟨_,e⟩
  | own y=>exact x
  | xd fs=>obtain ⟨_,⟨_,_,_,e,_⟩,_⟩:=x;exact ⟨_,e⟩
  | rng lo hi=>obtain ⟨_,_,_,e⟩:=x;exact ⟨_,e⟩
  | frz ob u ih=>exact ⟨_,x.1⟩
  | tbl ps=>exact ⟨_,x⟩
  | met f y=>exact ⟨_,x⟩
  | ext φ=>exact x.2.1
theorem HOk.none_of {P:Program} {w:World} {H:Hp} {h:Heap} {a:Addr} (x:HOk P w H h) (n:h.get? a=none):H a=none:=by
  cases e:H a with
  | none=>rfl
  | some o =>
    obtain ⟨u,q⟩:=(x a o e).there
    rw [n] at q;cases q
theorem Un.none_up {fs:List Addr} {H H':Hp} {h h':Heap} {b:Addr} (u:Un fs [] H H' h h') (n:h'.get? b=none):h.get? b=none:=by
  cases e:h.get? b with
  | none=>rfl
  | some o =>
    obtain ⟨o',e'⟩:=u.there b o e (fun z=>nomatch z)
    rw [n] at e';cases e'
section
variable {P:Program} {w:World} {K:PySem.W.Frag} {mg:Str→Option Value} {base:Heap} {N:List Str} {qual:Str} {scope:Scope} {f:Addr} {cd:Value} {A:Around} {outer:List Env} {s₀:Shared} {H₀:Hp} {E:XK}
theorem ze3 {x:Str} {C:Addr} {e₀:Expr} {es:List Expr} {t:TA} {np cpos pos:Pos} {k:Nat} (hq:ybz K C=true) (hr:Room k (A.deeper (envOfC qual scope s₀.heap.objs.size f cd)))
    (hg:Gl (cxOf (CX1 P w) P w K mg base N qual scope f cd A outer s₀ H₀ E) x) (hm:mg x=some (.ref C)) (ha:PA (cxOf (CX1 P w) P w K mg base N qual scope f cd A outer s₀ H₀ E) (e₀::es) t) (hdb:(x==("__debug__":Str))=false:=by decide)
    (he:starEach (e₀::es) (envOfC qual scope s₀.heap.objs.size f cd)=(false,eval e₀ (envOfC qual scope s₀.heap.objs.size f cd))::starEach es (envOfC qual scope s₀.heap.objs.size f cd):=by rfl)
    (hpl:(backTo cpos (starEach es (envOfC qual scope s₀.heap.objs.size f cd))).any (·.1)=false:=by rfl) :
    PS (cxOf (CX1 P w) P w K mg base N qual scope f cd A outer s₀ H₀ E) (.Raise (some (.Call (.Name x np) (e₀::es) [] cpos)) none pos) (fun _ σ H=>t σ H fun vs H1=>vs.length≤sizeLine∧E (.ref C) none H1):=by
  intro pins s σ H D I h
  have qx:PySem.W.excIn K C vmro "ValueError.__new__"=true:=by
    unfold ybz at hq;simp only [Bool.and_eq_true] at hq;exact hq.1.1.1.1
  obtain ⟨tl,N',nm,q,bs,hdct,sn,sub,ab,col,dd,k0,k1,k2,k3,k5,mN,hC,hN,hni,T⟩:=(zfK (x:=x) (mg:=mg) I.mod.kin hm qx).obj
  refine wpAny_Raise_call_subU (C:=C) (nm:=nm) (q:=q) (N:=N') (bs:=bs) (bm:=tl) (hdct:=hdct) (sn:=sn) (sub:=sub) (ab:=ab) (col:=col) (dd:=dd) (k0:=k0) (k1:=k1) (k2:=k2) (k3:=k3) (k5:=k5)
    PySem.F.excBase_ValueError (by decide +kernel) PySem.F.excBase_ValueError (mN:=mN) (T.hasType PySem.F.excBase_ValueError.hasBase) hr.hd ?_ hni (zb2 I hg hm ⟨rfl,?_⟩ hdb)
  · show (backTo cpos (starEach (e₀::es) (envOfC qual scope s₀.heap.objs.size f cd))).any (·.1)=false
    rw [he]
    show (false||(backTo cpos (starEach es (envOfC qual scope s₀.heap.objs.size f cd))).any (·.1))=false
    rw [hpl];rfl
  · have z:=ha cpos pins s σ H _ I h
    show wpAny _ _ (evalArgs (.ref C) true (backTo cpos (starEach (e₀::es) (envOfC qual scope s₀.heap.objs.size f cd))) []) _ _ _
    replace z:wpAny _ _ (spliced (backTo cpos (starEach (e₀::es) (envOfC qual scope s₀.heap.objs.size f cd)))) _ _ _:=z
    rw [he] at z ⊢
    refine Calls.evalArgs_plain (thn z fun us s2 ⟨vs,H1,I1,r,hv,q⟩=>⟨rfl,by rw [←r.length];exact hv,I1.bk _ _ hC,hN.keeps I1.bk,T.keeps I1.bk,fun h' e hme=>?_⟩)
    obtain ⟨kp,new,t0,hthere,_,_⟩:=hme
    have I2:=I1.kept (h':=h') (t':=s2.toks) kp
    exact yeU I2 (tb:=none) ⟨_,_,hthere,rfl,rfl,rfl,rfl⟩ (I1.hok.none_of new) (fun T z=>nomatch z) (I1.base.none_up new) (fun T z=>nomatch z) q
theorem Fun.okX {x qual:Str} {st:Stmt} {f:Addr} {fd:FuncData} {N ps:List Str} {k:Nat} {sp:Sp} (F:Fun K x qual st f fd) (S:zak N ps (zac st)) (len:∀vs H Q E,sp vs H Q E→vs.length=ps.length)
    (hbody:∀(cdv:Value) (A:Around) (outer:List Env) (s:Shared) (H:Hp) (vs:List V) (Q:VK) (E:XK),Room k (A.deeper (envOfC qual (zac st) s.heap.objs.size f cdv))→sp vs H Q E→
      ∃t,PSs (cxOf (CX1 P w) P w K mg base N qual (zac st) f cdv A outer s H E) (zai st) t∧t { nx:=fun _ H'=>Q .non H',rt:=Q } (ycz N vs) H):FnOk P w K mg base (CX1 P w) (k+1) f fd ps sp:=by
  obtain ⟨oc,od,kV,doc,pm,an,cdv,ct,osl,rfl,lk,hcd⟩:=F.ex
  exact yfV lk hcd S len fun A outer s H vs Q E hr hsp=>hbody cdv A outer s H vs Q E hr hsp
end
noncomputable def HasX (P:Program) (w:World) (K:PySem.W.Frag) (mg:Str→Option Value) (base:Heap) (n:Nat) (x:Str) (ps:List Str) (sp:Sp):Prop :=
  ∃f fd,FnOk P w K mg base (CX1 P w) n f fd ps sp∧ydg K fd ps []∧PySem.W.keepIn K (.ref f)=true∧mg x=some (.ref f)
section
variable {P:Program} {w:World} {K:PySem.W.Frag} {mg:Str→Option Value} {base:Heap} {N:List Str} {qual:Str} {scope:Scope} {f:Addr} {cd:Value} {A:Around} {outer:List Env} {s₀:Shared} {H₀:Hp} {E:XK}
end
noncomputable abbrev zdp (X:Cx) (pins:List (Addr×Obj)) (F:Addr→St→Hp→Prop):Cx:={ X with pn:=X.pn++pins,xe:=fun e s'=>∃σ H s,Inv X pins σ H s∧CX1 X.prog X.w X.stack H s (fun cls _ H'=>∃C,cls = .ref C∧F C σ H') e s' }
noncomputable abbrev zcu (X:Cx) (a:Addr):Cx:={ X with A:=X.A.mark (some (.ref a)),calm:=false,xe:=fun _ _=>False }
section
variable {X:Cx} {pins pins':List (Addr×Obj)} {σ:St} {H:Hp} {s:Shared} {F:Addr→St→Hp→Prop} {a:Addr}
theorem Inv.toTry (I:Inv X pins σ H s):Inv (zdp X pins F) [] σ H s :=
  ⟨⟨I.ok.mod,I.ok.kind,I.ok.glob,I.ok.blt,I.ok.above,I.ok.inj,I.ok.has,I.ok.cab,I.ok.hd,I.ok.frames,I.ok.stk,I.ok.exf,I.ok.bs,I.ok.bsz,I.ok.noex,I.ok.exfs,I.ok.funs,I.ok.frf⟩,
    I.os,I.bare,I.base,I.loc,I.cell,I.free,I.freeC,fun p hp=>I.pin p (by simpa [zdp] using hp),I.hok,I.len⟩
theorem Inv.ofTry (I:Inv (zdp X pins F) pins' σ H s):Inv X pins σ H s :=
  ⟨⟨I.ok.mod,I.ok.kind,I.ok.glob,I.ok.blt,I.ok.above,I.ok.inj,I.ok.has,I.ok.cab,I.ok.hd,I.ok.frames,I.ok.stk,I.ok.exf,I.ok.bs,I.ok.bsz,I.ok.noex,I.ok.exfs,I.ok.funs,I.ok.frf⟩,
    I.os,I.bare,I.base,I.loc,I.cell,I.free,I.freeC,fun p hp=>I.pin p (List.mem_append_left _ hp),I.hok,I.len⟩
theorem Inv.toSuite (I:Inv X pins σ H s):Inv (zcu X a) pins σ H s :=
  ⟨⟨I.ok.mod,I.ok.kind,I.ok.glob,I.ok.blt,I.ok.above,I.ok.inj,I.ok.has,I.ok.cab,fun z=>(by cases z),I.ok.frames,I.ok.stk,I.ok.exf,I.ok.bs,I.ok.bsz,I.ok.noex,I.ok.exfs,I.ok.funs,I.ok.frf⟩,
    I.os,I.bare,I.base,I.loc,I.cell,I.free,I.freeC,I.pin,I.hok,I.len⟩
theorem Inv.ofSuite (ok:X.Ok) (I:Inv (zcu X a) pins σ H s):Inv X pins σ H s :=
  ⟨ok,I.os,I.bare,I.base,I.loc,I.cell,I.free,I.freeC,I.pin,I.hok,I.len⟩
end
noncomputable def yfU (sp:Sp) (F:Addr→St→Hp→Prop) (t:TA):TE:=fun σ H Q=>t σ H fun vs H1=>sp vs H1 Q (fun cls _ H'=>∃C,cls = .ref C∧F C σ H')
theorem ze8 {X:Cx} {pins₀:List (Addr×Obj)} {F:Addr→St→Hp→Prop} {n k:Nat} {x:Str} {ps:List Str} {sp:Sp} {e:Expr} {es:List Expr} {t:TA} {p pos:Pos} (h:HasX X.prog X.w X.K X.mg X.base n x ps sp) (hr:Room k X.A) (hle:n≤k)
    (hg:Gl X x) (ha:PA (zdp X pins₀ F) (e::es) t) (hdb:(x==("__debug__":Str))=false:=by decide) (he:starEach (e::es) X.env=(false,eval e X.env)::starEach es X.env:=by rfl) (hpl:(backTo pos (starEach es X.env)).any (·.1)=false:=by rfl) :
    PE (zdp X pins₀ F) (.Call (.Name x p) (e::es) [] pos) (yfU sp F t):=by
  obtain ⟨f,fd,G,B,kp,m⟩:=h
  intro pins s σ H Q I h
  refine wpAny_Call_Name_kw (zb2 (X:=zdp X pins₀ F) I hg m ?_ hdb)
  refine PySem.W.callWith_K (h₀:=X.base) I.ok.mod.kin kp (thn (ha pos pins s σ H _ I h) fun us s1 ⟨vs,H1,I1,r,q⟩=>⟨I1.kIn,?_⟩) he hpl
  have hl:us.length=ps.length:=by rw [←r.length];exact G.len _ _ _ _ q
  have hb:=B s1 us I1.kIn (by rw [List.append_nil];exact hl)
  rw [List.append_nil] at hb
  refine wpAny_call (codeAny_mono (G.run X.A X.stack s1 H1 ⟨us,[]⟩ us vs Q _ (hr.mono hle) I1.env0 hb r q) fun rr s' hq=>?_)
  cases rr with
  | error e=>exact ⟨σ,H1,s1,I1.ofTry,hq⟩
  | ok fl =>
    cases fl with
    | ret u=>exact I1.after hq
    | next=>exact False.elim hq
    | brk=>exact False.elim hq
    | cont=>exact False.elim hq
noncomputable def ExcO (a C:Addr):HO:=.ext fun h=>∃oe vs,h.get? a=some oe∧oe.cls = .ref C∧oe.dict=none∧oe.data = .fields vs
theorem HOk.track {P:Program} {w:World} {H:Hp} {h:Heap} {a:Addr} {o:HO} (x:HOk P w H h) (hn:H a=none) (new:yaZ P w (upd H a o) h a o):HOk P w (upd H a o) h:=fun b u e=>by
  by_cases hb:b=a
  · subst hb;rw [yac] at e;cases e;exact new
  · rw [yaf hb] at e
    exact (x b u e).stay (fun c v _ q=>q) (fun c q=>by rw [yaf (yae q hn)];exact q) fun c xs q=>by rw [yaf (yae q hn)];exact q
theorem Un.track {fs:List Addr} {H H':Hp} {h h':Heap} {a:Addr} {o:HO} (u:Un fs [] H H' h h') (hn:h.get? a=none) (hH:H' a=none):Un fs [] H (upd H' a o) h h' where
  keep:=u.keep
  slot:=u.slot
  free:=fun b ob q n hx=>by rw [yaf (fun z=>by rw [z,hn] at q;cases q)];exact u.free b ob q n hx
  there:=u.there
  tups:=fun b xs q=>by have:=u.tups b xs q;rw [yaf (yae this hH)];exact this
  frzs:=fun b ob xs q=>by have:=u.frzs b ob xs q;rw [yaf (yae this hH)];exact this
  tbls:=fun b ps q=>by obtain ⟨more,this⟩:=u.tbls b ps q;exact ⟨more,by rw [yaf (yae this hH)];exact this⟩
theorem ybK {X:Cx} {M:Model} {A:Around} {E:Value→Shared→Prop} {pins:List (Addr×Obj)} {σ:St} {H:Hp} {s:Shared} {i:Nat} {x:Str} {pos:Pos} {Q:Unit→Shared→Prop} (I:Inv X pins σ H s) (hN:X.N.Nodup) (hi:X.N[i]?=some x) (hk:X.env.scope.names.lookup x=some .local)
    (h:∀s',Inv X pins (σ.set i none) H s'→Q () s'):wpAny M A (do bindName X.env x .none;unbindBehindTheSuite X.env x pos) Q E s:=by
  obtain ⟨m,hn,hl⟩:=id I.loc
  have hcls:(X.env.scope.kind==.class||(X.env.scope.kind==.module&&X.env.locals != X.env.globals))=false:=by rw [I.ok.kind];rfl
  have hiσ:i < σ.length:=by rw [I.len];exact (List.getElem?_eq_some_iff.mp hi).1
  have cne:=I.cne
  refine wpAny_nameGoes_keeps hk hn hcls fun h' v hn' hs=>?_
  obtain ⟨oL,_,_,hoL,_⟩:=id hn
  refine h _ ⟨I.ok,I.os,I.bare,⟨fun b o e n hb hx=>?_,fun b o e n hb hx=>?_,I.base.free,fun b o e hx=>?_,I.base.tups,I.base.frzs,I.base.tbls⟩,⟨_,hn',fun j y v' e1 e2 e3=>?_⟩,fun y c e=>?_,I.free,I.freeC,fun p hp=>?_,fun b ob e=>?_,by simpa using I.len⟩
  · exact (hs.2 b (Nat.ne_of_lt (Nat.lt_of_lt_of_le (Heap.lt_size e) I.ok.above))).trans (I.base.keep b o e n hb hx)
  · obtain ⟨sl,e1⟩:=I.base.slot b o e n hb hx
    exact ⟨sl,(hs.2 b (Nat.ne_of_lt (Nat.lt_of_lt_of_le (Heap.lt_size e) I.ok.above))).trans e1⟩
  · obtain ⟨o',e1⟩:=I.base.there b o e hx
    exact ⟨o',(hs.2 b (Nat.ne_of_lt (Nat.lt_of_lt_of_le (Heap.lt_size e) I.ok.above))).trans e1⟩
  · by_cases hj:j=i
    · subst hj
      rw [List.getElem?_set_self hiσ] at e2
      cases e2
    · rw [List.getElem?_set_ne (Ne.symm hj)] at e2
      obtain ⟨u',r',q⟩:=hl j y v' e1 e2 e3
      refine ⟨u',r',?_⟩
      rcases q with ⟨k,e⟩ | ⟨k,c,e,z⟩
      · refine .inl ⟨k,?_⟩
        have:y≠x:=fun e=>hj (ycJ hN e1 (e ▸ hi))
        simp [this,e]
      · exact .inr ⟨k,c,e,z.sameBut hs (cne y c e)⟩
  · obtain ⟨w',z⟩:=I.cell y c e
    exact ⟨w',z.sameBut hs (cne y c e)⟩
  · obtain ⟨e,n,ne,nf,d⟩:=I.pin p hp
    exact ⟨(hs.2 p.1 ne).trans e,n,ne,nf,d⟩
  · refine (I.hok b ob e).stay (fun c w' hc q=>(hs.2 c ?_).trans q) (fun _ q=>q) fun _ _ q=>q
    rintro rfl
    rcases hc with rfl|hc
    · rw [I.free] at e;cases e
    · rw [I.free] at hc;cases hc
theorem ydb.again {l:List Env} {e C T:Addr} {tb:Option Addr} {h h':Heap} (y:ydb l e C tb h h') (hT:h.objs.size≤T) (x:Exc h' e C (some T)):ydb l e C tb h (h'.update T (Obj.mapFields (·.setIfInBounds 3 .none))):=by
  obtain ⟨oe,vs,he,hc,hdc,hd,h1,nTe,oT,ts,hoT,hdT,h3⟩:=x
  have o:∀b,b≠T→(h'.update T (Obj.mapFields (·.setIfInBounds 3 .none))).get? b=h'.get? b:=fun b hb=>Heap.get?_update_other _ _ (Ne.symm hb)
  have hd4:=Obj.data_mapFields hdT (·.setIfInBounds 3 Value.none)
  have hT4:=Heap.get?_update_self (Obj.mapFields (·.setIfInBounds 3 Value.none)) hoT (Obj.isFreed_of_fields hd4)
  have nb:∀b ob,h.get? b=some ob→b≠T:=fun b ob q z=>absurd (Heap.lt_size q) (by rw [z];exact Nat.not_lt.mpr hT)
  exact ⟨⟨T,hT,oe,vs,(o e (Ne.symm nTe)).trans he,hc,hdc,hd,h1,nTe,_,_,hT4,hd4,by simp [(Array.getElem?_eq_some_iff.mp h3).1]⟩,fun b ob h1 h2 h3 q=>(o b (nb b ob q)).trans (y.keep b ob h1 h2 h3 q),fun b ob h1 h2 q=>(let ⟨sl,z⟩:=y.slot b ob h1 h2 q;⟨sl,(o b (nb b ob q)).trans z⟩)⟩
noncomputable def tTry (tb:(Addr→St→Hp→Prop)→TS) (ts:TS) (i:Nat) (ok:Addr→Prop):TS:=fun D σ H =>
  tb (fun C σ' H'=>ok C∧∀a,H' a=none→ts { D with nx:=fun σ2 H2=>D.nx (σ2.set i none) H2,bk:=fun σ2 H2=>D.bk (σ2.set i none) H2,ct:=fun σ2 H2=>D.ct (σ2.set i none) H2 } (σ'.set i (some (.ref a))) (upd H' a (ExcO a C))) D σ H
theorem yf3 {X:Cx} {body suite:List Stmt} {b₀:Stmt} {tb:(Addr→St→Hp→Prop)→TS} {ts:TS} {i:Nat} {n x:Str} {Re:Addr} {p1 p2 pos:Pos} (hst:X.stack=X.env::X.outer∧X.env.frame=some X.env.locals)
    (hN:X.N.Nodup) (hi:X.N[i]?=some n) (hk:X.env.scope.names.lookup n=some .local) (hg:Gl X x) (hm:X.mg x=some (.ref Re)) (hb:∀pins F,PSs (zdp X pins F) body (tb F)) (hs:∀a,PSs (zcu X a) (b₀::suite) ts) (hdb:(x==("__debug__":Str))=false:=by decide) :
    PS X (.Try body [.ExceptHandler (some (.Name x p1)) (some n) (b₀::suite) p2] [] [] pos) (tTry tb ts i (fun C=>PySem.W.exmOne X.K (.ref C) (.ref Re)=some true)):=by
  intro pins s σ H D I h
  refine wpAny_Try_except (wpAny_mono (hb pins _ [] s σ H D I.toTry h) (fun fl s1 q=>?_) fun e s' q=>?_)
  · cases fl with
    | next=>obtain ⟨σ',H',I',q⟩:=q;exact wpAny_execs_nil ⟨σ',H',I'.ofTry,q⟩
    | brk=>obtain ⟨σ',H',I',q⟩:=q;exact ⟨σ',H',I'.ofTry,q⟩
    | cont=>obtain ⟨σ',H',I',q⟩:=q;exact ⟨σ',H',I'.ofTry,q⟩
    | ret u=>obtain ⟨v,σ',H',I',r,q⟩:=q;exact ⟨v,σ',H',I'.ofTry,r,q⟩
  · obtain ⟨σ1,H1,s1,I1,a,C,T,H',rfl,ho,hgn,u,hok,x,ha,hT,na,nT,C',hC',okC,q⟩:=q
    cases hC'
    have I2:=I1.call' (s':=s') (ch:=[]) ho u hok hgn (fun b z=>nomatch z)
    have hs2:=I2.stack
    have hF:=I2.stkFree
    have hfr:=I1.ok.frames
    rw [hst.1] at hs2 hF hfr u
    refine ydQ (base:=X.base) hfr hs2 hst.2 x fun h' y=>?_
    have inv:∀h'',ydb (X.env::X.outer) a C (some T) s'.heap h''→∀tk,Inv X pins σ1 H' { s' with heap:=h'',toks:=tk }∧Inv X pins σ1 (upd H' a (ExcO a C)) { s' with heap:=h'',toks:=tk }:=fun h'' y tk=>by
      obtain ⟨u',hok'⟩:=y.un u hok na (fun T' z=>by cases z;exact nT) ha (fun T' z=>by cases z;exact hT) hF fun b o q hb=>hb
      rw [←hst.1] at u'
      obtain ⟨T2,_,oe,vs,z1,z2,z3,z4,_⟩:=y.exc
      exact ⟨I1.call' (s':={ s' with heap:=h'',toks:=tk }) (ch:=[]) ho u' hok' hgn (fun b z=>nomatch z),
        I1.call' (s':={ s' with heap:=h'',toks:=tk }) (ch:=[]) ho (u'.track na ha) (hok'.track ha ⟨⟨oe,vs,z1,z2,z3,z4⟩,⟨_,z1⟩,fun h1 h2 ⟨oe,vs,z1,z⟩ k=>⟨oe,vs,k _ z1,z⟩⟩) hgn (fun b z=>nomatch z)⟩
    obtain ⟨T2,hT2,x2⟩:=id y.exc
    have J:=(inv h' y s'.toks).1
    refine wpAny_handleBy_cons (codeAny_handlers_test (zb2 (X:=zcu X a) J.toSuite hg hm ?_ hdb)) (by intro q;cases q)
    obtain ⟨oe,vs,z1,z2,z3,z4,z5,z6,oT,tsv,z7,z8,z9⟩:=id x2
    refine (PySem.W.exm_one (M:=model X.prog X.w) (h:=h') J.kIn (z2 ▸ (PySem.W.Looks.ld z1).andThen .now) okC).at ?_
    simp only [if_true]
    refine codeAny_handlers_suite_as (wpAny_setFlight_none z1 z4 z5 z7 z8 (Array.getElem?_eq_some_iff.mp z9).1 ?_)
    have J2:=(inv _ (y.again hT2 x2) s'.toks).2
    refine zc2 (X:=X) (v:=V.ref a) J2 hN hi (.inl hk) rfl (fun s3 J3 _=>?_) (.inr hk)
    refine wpAny_mono (hs a pins s3 _ _ _ J3.toSuite (q a ha)) (fun fl s4 r=>?_) fun _ _ z=>False.elim z
    have iok:=I.ok
    cases fl with
    | next=>obtain ⟨σ',H',I',q⟩:=r;exact ybK (I'.ofSuite iok) hN hi hk fun s5 I5=>⟨_,_,I5,q⟩
    | brk=>obtain ⟨σ',H',I',q⟩:=r;exact ybK (I'.ofSuite iok) hN hi hk fun s5 I5=>⟨_,_,I5,q⟩
    | cont=>obtain ⟨σ',H',I',q⟩:=r;exact ybK (I'.ofSuite iok) hN hi hk fun s5 I5=>⟨_,_,I5,q⟩
    | ret u=>obtain ⟨v,σ',H',I',r,q⟩:=r;exact ybK (I'.ofSuite iok) hN hi hk fun s5 I5=>⟨v,_,_,I5,r,q⟩
end L2
end
section
-- text: ExtRj
set_option Elab.async false
set_option linter.all false
set_option maxRecDepth 100000
set_option maxHeartbeats 4000000
namespace L2
open PySem PySem.Spec PyProof.Rows PySem.W
noncomputable def yeh (e C:Addr) (h:Heap):Prop:=∃oe vs,h.get? e=some oe∧oe.cls = .ref C∧oe.dict=none∧oe.data = .fields vs
theorem yeh.inst {e C:Addr} {h:Heap} (x:yeh e C h):∃oe,InstAt h e oe C none:=by
  obtain ⟨oe,vs,h1,h2,h3,h4⟩:=x
  exact ⟨oe,h1,h2,by unfold notCls;rw [h4],by rw [h3];trivial⟩
theorem yaY {K:Frag} {C:Addr} (q:ybz K C=true):(∃cd,clsIn K C=some cd)∧findIn K (.ref C) "__getattribute__"=some (some (.builtin "BaseException.__getattribute__"))∧findIn K (.ref C) "__getattr__"=some none∧findIn K (.ref C) "__class__"=some (some (.builtin "object.__class__"))∧
    mroIn K C (.type "object")=some true∧mroIn K C (.type "BaseException")=some true∧kitOne K (.ref C) (.type "ValueError")=some true∧specialIn K (.builtin "object.__class__") "__get__"=some (some (.builtin "getset_descriptor.__get__"))∧takesIn K (.builtin "object.__class__")=some true:=by
  unfold ybz at q
  simp only [Bool.and_eq_true,beq_iff_eq] at q
  obtain ⟨⟨⟨⟨_,h1⟩,⟨h2,h3⟩,h4⟩,⟨h5,h6⟩,h7⟩,h8,h9⟩:=q
  exact ⟨Option.isSome_iff_exists.mp h1,h2,h3,h4,h5,h6,h7,h8,h9⟩
section
variable {prog:Program} {w:World} {A:Around} {E:Value→Shared→Prop} {s:Shared} {K:Frag} {e C:Addr}
theorem yeB {M:Model} {nameV:Value} {Q:Unit→Shared→Prop} (q:ybz K C=true) (X:K.In s.heap) (x:yeh e C s.heap) (hq:Q () s):wpAny M A (checkBuiltinCall "BaseException.__getattribute__" ⟨[.ref e,nameV],[]⟩) Q E s:=by
  have hk:builtinKind "BaseException.__getattribute__"=some .slot:=by decide +kernel
  have hsplit:splitId "BaseException.__getattribute__"=some ("BaseException","__getattribute__"):=by decide +kernel
  have ha:=F.args_bexc_ga (.ref e) nameV
  obtain ⟨oe,I⟩:=x.inst
  obtain ⟨_,_,_,_,_,hb,_⟩:=yaY q
  obtain ⟨hh,g,d,t,os⟩:=s
  have L0:=I.type (M:=M)
  have L1:=looks_mroIn (M:=M) X hb
  simp only [checkBuiltinCall,hk,hsplit]
  refine wpAny_bind ?_
  unfold isInstance
  refine wpAny_bind (L0.at (L1.at ?_))
  repeat (any_goals (first|assumption|wp_step))
theorem zee {Q:Option Value→Shared→Prop} (q:ybz K C=true) (X:K.In s.heap) (x:yeh e C s.heap) (h:Q (some (.ref C)) { s with toks:=s.toks+1 }):wpAny (model prog w) A (getAttr? (.ref e) "__class__") Q E s:=by
  obtain ⟨oe,I⟩:=x.inst
  obtain ⟨⟨cd,hcd⟩,hga,hgt,hcl,hob,_,_,hget,htk⟩:=yaY q
  have hf:findObj K C none "__class__"=some (.bind (.builtin "getset_descriptor.__get__") (.builtin "object.__class__")):=by
    unfold findObj
    rw [hcd,Option.bind_some,hcl,Option.bind_some]
    simp [hget,htk]
  obtain ⟨hh,g,d,t,os⟩:=s
  have L0:=I.type (M:=model prog w)
  have L1:=looks_findIn (M:=model prog w) X hga
  have L2:=looks_findIn (M:=model prog w) X hgt
  have L3:=looks_find (M:=model prog w) X I hf
  have f3:bindSpecial (.builtin "BaseException.__getattribute__") (.ref e)=pure (.builtin "BaseException.__getattribute__",[.ref e]):=F.excAttr_ValueError.ga.bind (.ref e)
  have hx2:(Value.builtin "BaseException.__getattribute__"==Value.builtin "object.__getattribute__")=false:=by decide +kernel
  have hx1:(onTheHeap (Value.ref C)&&Value.builtin "BaseException.__getattribute__"==Value.builtin "object.__getattribute__")=false:=by rw [hx2];rfl
  unfold getAttr? getAttrBy? getAttrBy
  refine wpAny_bind (wpAny_mkText (wpAny_bind (wpAny_attempt (wpAny_holding (wpAny_bind (L0.at (wpAny_bind (L1.at ?_))))))))
  dsimp only
  rw [if_neg (by rw [hx1];exact Bool.false_ne_true)]
  unfold getAttrByItsOwn hookBefore
  refine wpAny_bind (show wpAny _ _ (typeLookup (.ref C) "__getattr__") _ _ _ from L2.at ?_)
  refine wpAny_bind (wpAny_attempt (wpAny_holding ?_))
  show wpAny _ _ (boundAndCalled (.builtin "BaseException.__getattribute__") (.ref e) _) _ _ _
  unfold boundAndCalled
  rw [f3]
  refine wpAny_bind (wpAny_pure ?_)
  refine wpAny_call (codeAny_call_builtin F.excAttr_ValueError.ga.plain F.entry_bexc_ga (yeB q X x ?_))
  unfold Builtin.«object.__getattribute__»
  refine wpAny_bind (wpAny_of_eq (a:=(Value.ref e,[Value.str "__class__" t])) (by rfl) ?_)
  refine wpAny_bind (wpAny_pure ?_)
  refine wpAny_bind (L0.at (wpAny_bind (L3.at ?_)))
  dsimp only
  show wpAny _ _ (holding [Value.builtin "object.__class__"] (call (.builtin "getset_descriptor.__get__") [Value.builtin "object.__class__",.ref e,.ref C]) >>= ret) _ _ _
  refine wpAny_bind (wpAny_holding (wpAny_call (class_get (s:=⟨hh,g,d,t+1,os⟩) (ox:=oe) (od:=none) X I hob ?_)))
  repeat (any_goals (first|exact h|assumption|wp_step))
theorem zcw (q:ybz K C=true):KitX K (.ref e) (.ref C) (yeh e C) where
  ty:=fun _ _ _ x=>let ⟨_,I⟩:=x.inst;I.type
  it:=fun _ _ X _=>by
    obtain ⟨⟨cdD,hcD⟩,_⟩:=yaY q
    unfold clsIn at hcD
    split at hcD
    · rename_i c' d' cd' sl' ho
      intro A' Q' E' s' k q
      unfold isType loadHead
      exact wpAny_bind (wpAny_loadPart (k _ _ (X _ _ ho)) (wpAny_pure q))
    · cases hcD
  ne:=fun h tp dd its n sl X htp=>by
    obtain ⟨⟨cdD,hcD⟩,_⟩:=yaY q
    refine Bool.eq_false_iff.mpr fun q=>?_
    have e:C=tp:=Value.ref.inj (beq_iff_eq.mp q)
    subst e
    unfold clsIn at hcD
    split at hcD
    · rename_i c' d' cd' sl' ho
      have z:=(X _ _ ho).symm.trans htp
      cases z
    · cases hcD
  ca:=fun X x k=>zee q X x k
end
inductive TyE (K:Frag) (H:Hp):V→Value→Prop where
  | exc {a C:Addr} (h:H a=some (ExcO a C)) (q:ybz K C=true):TyE K H (.ref a) (.ref C)
  | non:TyE K H .non (.type "NoneType")
inductive ClE (K:Frag) (H:Hp) (t:Value):V→Bool→Prop where
  | own {D:Addr} {b:Bool} (h:kitOne K t (.ref D)=some b):ClE K H t (.ref D) b
  | ty {T:String} {b:Bool} (h:kitOne K t (.type T)=some b):ClE K H t (.ty T) b
  | tup {tp:Addr} {ds:List Addr} {b:Bool} (h:H tp=some (.tup (ds.map V.ref))) (q:kitAny K t (ds.map Value.ref)=some b):ClE K H t (.ref tp) b
noncomputable def rIsE (K:Frag):List V→Hp→VK→Prop:=fun xs H Q=>∃x c t b,xs=[x,c]∧TyE K H x t∧ClE K H t c b∧Q (.bl b) H
theorem zcW:∀ {ds:List Addr} {us:List Value},Vals (ds.map V.ref) us→us=ds.map Value.ref
  | [],_,.nil=>rfl
  | _::_,_,.cons r t=>by cases r;rw [zcW t];rfl
theorem zfE {X:Cx}:yaT X (.builtin "isinstance") (rIsE X.K):=by
  intro pins s σ H xs us Q I r h
  obtain ⟨x,c,t,b,rfl,hx,hc,q⟩:=h
  obtain ⟨u,v,rfl,r1,r2⟩:=yeP r
  have fin:∀tk,EP X pins σ Q (.bool b) { s with toks:=tk }:=fun tk=>⟨.bl b,H,I.tok tk,rfl,q⟩
  have tupOf:∀ {tp:Addr} {ds:List Addr},H tp=some (.tup (ds.map V.ref))→∃dd n sl,s.heap.get? tp=some ⟨.type "tuple",dd,.seq (ds.map Value.ref).toArray n,sl⟩:=fun {tp ds} h=>by
    obtain ⟨_,its,rv,p⟩:=(show yaZ X.prog X.w H s.heap tp (.tup (ds.map V.ref)) from I.hok tp _ h)
    obtain rfl:=zcW rv
    obtain ⟨o,e1,e2,n,e3⟩:=p
    obtain ⟨oc,odi,oda,osl⟩:=o
    dsimp only at e2 e3
    subst e2;subst e3
    exact ⟨odi,n,osl,e1⟩
  cases hx with
  | @exc a C ha qa =>
    cases (show u=Value.ref a from r1)
    obtain ⟨px,_,_⟩:=(show yaZ X.prog X.w H s.heap a (ExcO a C) from I.hok a _ ha)
    cases hc with
    | own z=>cases r2;exact kia_one (zcw qa) I.kIn px z (fun z=>nomatch z) fin
    | ty z=>cases r2;exact kia_one (zcw qa) I.kIn px z (fun z=>nomatch z) fin
    | tup h1 z =>
      cases r2
      obtain ⟨dd,n,sl,e⟩:=tupOf h1
      exact kia_tup (zcw qa) I.kIn px e z (fun z=>nomatch z) fin
  | non =>
    cases (show u=Value.none from r1)
    cases hc with
    | own z=>cases r2;exact kia_one kitx_none I.kIn True.intro z (fun z=>nomatch z) fin
    | ty z=>cases r2;exact kia_one kitx_none I.kIn True.intro z (fun z=>nomatch z) fin
    | tup h1 z =>
      cases r2
      obtain ⟨dd,n,sl,e⟩:=tupOf h1
      exact kia_tup kitx_none I.kIn True.intro e z (fun z=>nomatch z) fin
theorem zcB {X:Cx} {K:Frag} (h:X.K=K):yaT X (.builtin "isinstance") (rIsE K):=h ▸ zfE
end L2
namespace L2
open PySem PySem.Spec PyProof.Rows PySem.W
noncomputable def ycn (K:Frag) (Re:Addr) (l:List Addr):Bool:=l.all (ybz K)&&(l.all (fun C=>exmOne K (.ref C) (.ref Re)==some true)&&(l.all (fun C=>l.all fun D=>kitOne K (.ref C) (.ref D)==some (C==D))&&decide l.Nodup))
theorem ybJ (a:Addr):RelV (.ref a) (.ref a):=rfl
theorem yfq (T:String):RelV (.ty T) (.type T):=rfl
theorem ybE:bootBuiltins "ValueError"=some (.type "ValueError"):=by with_unfolding_all rfl
structure Errs (K:Frag) (mg:Str→Option Value) (Re By Nr Tm Nt Nl:Addr):Prop where
  mRe:mg "RoundError"=some (.ref Re)
  mBy:mg "ByNought"=some (.ref By)
  mNr:mg "NoRoot"=some (.ref Nr)
  mTm:mg "TooMany"=some (.ref Tm)
  mNt:mg "NoText"=some (.ref Nt)
  mNl:mg "NoLine"=some (.ref Nl)
  mV:mg "ValueError"=none
  ok:ycn K Re [By,Nr,Tm,Nt,Nl]=true
section
variable {K:Frag} {mg:Str→Option Value} {Re By Nr Tm Nt Nl:Addr}
theorem Errs.one (R:Errs K mg Re By Nr Tm Nt Nl) {C:Addr} (h:C∈[By,Nr,Tm,Nt,Nl]):ybz K C=true:=by
  have z:=R.ok;unfold ycn at z;simp only [Bool.and_eq_true,List.all_eq_true] at z;exact z.1 C h
theorem Errs.match_ (R:Errs K mg Re By Nr Tm Nt Nl) {C:Addr} (h:C∈[By,Nr,Tm,Nt,Nl]):exmOne K (.ref C) (.ref Re)=some true:=by
  have z:=R.ok;unfold ycn at z;simp only [Bool.and_eq_true,List.all_eq_true,beq_iff_eq] at z;exact z.2.1 C h
theorem Errs.kit (R:Errs K mg Re By Nr Tm Nt Nl) {C D:Addr} (h:C∈[By,Nr,Tm,Nt,Nl]) (h':D∈[By,Nr,Tm,Nt,Nl]):kitOne K (.ref C) (.ref D)=some (C==D):=by
  have z:=R.ok;unfold ycn at z;simp only [Bool.and_eq_true,List.all_eq_true,beq_iff_eq] at z;exact z.2.2.1 C h D h'
theorem Errs.nd (R:Errs K mg Re By Nr Tm Nt Nl):[By,Nr,Tm,Nt,Nl].Nodup:=by
  have z:=R.ok;unfold ycn at z;simp only [Bool.and_eq_true] at z;exact of_decide_eq_true z.2.2.2
theorem Errs.yes (R:Errs K mg Re By Nr Tm Nt Nl) {C:Addr} (h:C∈[By,Nr,Tm,Nt,Nl]):kitOne K (.ref C) (.ref C)=some true:=by rw [R.kit h h,beq_self_eq_true]
theorem Errs.no (R:Errs K mg Re By Nr Tm Nt Nl) {C D:Addr} (h:C∈[By,Nr,Tm,Nt,Nl]) (h':D∈[By,Nr,Tm,Nt,Nl]) (ne:C≠D):kitOne K (.ref C) (.ref D)=some false:=by rw [R.kit h h',beq_false_of_ne ne]
theorem Errs.any_no (R:Errs K mg Re By Nr Tm Nt Nl) {C:Addr} (h:C∈[By,Nr,Tm,Nt,Nl]):∀ {ds:List Addr},(∀D∈ds,D∈[By,Nr,Tm,Nt,Nl]∧C≠D)→kitAny K (.ref C) (ds.map Value.ref)=some false
  | [],_=>rfl
  | D::ds,hd=>by
    show kitAny K (.ref C) (Value.ref D::ds.map Value.ref)=some false
    unfold kitAny
    rw [R.no h (hd D (.head _)).1 (hd D (.head _)).2]
    exact R.any_no h fun E hE=>hd E (.tail _ hE)
theorem Errs.val (R:Errs K mg Re By Nr Tm Nt Nl) {C:Addr} (h:C∈[By,Nr,Tm,Nt,Nl]):kitOne K (.ref C) (.type "ValueError")=some true:=(yaY (R.one h)).2.2.2.2.2.2.1
end
end L2
namespace L2
open PySem PySem.Spec PyProof.Rows
section
variable {X:Cx}
end
end L2
namespace L2
open PySem PySem.Spec PyProof.Rows
theorem zdE {X:Cx} {st:Stmt} {t:TS} (h:PS X.nox st t):PS X st t:=fun pins s σ H D I hw =>
  wpAny_mono (h pins s σ H D (I.wish _) hw) (fun _ _ q=>q.unwish) fun _ _ z=>False.elim z
end L2
namespace L2
open PySem PySem.Spec PyProof.Rows
section
variable {X:Cx} {o e:Expr} {es:List Expr} {to:TE} {t:TA} {name:Str} {apos cpos:Pos} {T:String} {id:String} {r:V→List V→Hp→VK→Prop} {K:PySem.W.Frag}
end
end L2
end
section
-- text: ExtRk
set_option Elab.async false
set_option linter.all false
set_option maxRecDepth 100000
set_option maxHeartbeats 4000000
namespace L2
open PySem PySem.Spec PyProof.Rows
section
variable {X:Cx}
end
end L2
namespace L2
open PySem PySem.Spec PyProof.Rows
section
variable {X:Cx}
end
end L2
end
section
-- text: ExtRl
set_option Elab.async false
set_option linter.all false
set_option maxRecDepth 100000
set_option maxHeartbeats 4000000
namespace L2
open PySem PySem.Spec PyProof.Rows
section
variable {X:Cx}
end
end L2
namespace L2
open PySem PySem.Spec PyProof.Rows
section
variable {X:Cx}
noncomputable def zf9 (K:PySem.W.Frag):List V→Hp→VK→Prop:=fun vs H Q=>∃(a:Addr) (d:PyData),vs=[.ref a]∧RdN K H 10 (.ref a) d∧DOk d (2^20)∧Q (.str d.shown) H
theorem ycl (hg:X.A.guards=some []) (hu:X.A.units+64<cLine):yaT X (.builtin "repr") (zf9 X.K):=by
  intro pins s σ H vs us Q I r h
  obtain ⟨a,d,rfl,hd,ok,q⟩:=h
  obtain ⟨u,rfl,rx⟩:=zb4 r
  cases rx
  have R:=ydB I 10 (.ref a) d (.ref a) hd rfl
  refine repr_of_reads' R ok.sh (PyData.noDict_hsm ok.nd) hg (by have:=ok.dp;omega) (fun _ _ e=>e) (fun h' u tk hk=>?_) (PyData.shown_fits (B:=8) (by decide) (by decide) ok.sl ok.we)
  exact ⟨.str _,H,I.kept (fun b o e=>hk b o e),⟨u,rfl⟩,q⟩
end
end L2
namespace L2
open PySem PySem.Spec PyProof.Rows PySem.W
section
variable {K:Frag} {mg:Str→Option Value} {Re By Nr Tm:Addr}
end
end L2
end
section
-- text: ExtRm
set_option Elab.async false
set_option linter.all false
set_option maxRecDepth 100000
set_option maxHeartbeats 4000000
namespace L2
open PySem PySem.Spec PyProof.Rows
section
variable {M:Model} {A:Around} {E:Value→Shared→Prop} {s:Shared}
end
section
variable {X:Cx}
end
end L2
namespace L2
open PySem PySem.Spec PyProof.Rows
end L2
end
section
-- text: ExtRn
set_option Elab.async false
set_option linter.all false
set_option maxRecDepth 100000
set_option maxHeartbeats 4000000
namespace L2
open PySem PySem.Spec PyProof.Rows
section
variable {X:Cx}
noncomputable def zdT (K:PySem.W.Frag) (H:Hp) (x:V) (T:String):Prop:=zfX K H x T∨(T = "dict"∧∃a kvs,x = .ref a∧H a=some (.dK kvs))
noncomputable def yeQ (K:PySem.W.Frag) (U:String):List V→Hp→VK→Prop:=fun xs H Q=>∃x T,xs=[x,.ty U]∧zdT K H x T∧Q (.bl (subK T U)) H
theorem yb5 {U:String} (hU:subK "dict" U=false) (hty:typeOf (.type U)=pure (.type "type")) (hsub:isSubtype (.type "dict") (.type U)=pure false) (hc:yaT X (.builtin "isinstance") (rIsi X.K U)):yaT X (.builtin "isinstance") (yeQ X.K U):=by
  intro pins s σ H xs us Q I r h
  obtain ⟨x,T,rfl,hk,q⟩:=h
  rcases hk with hk | ⟨rfl,a,kvs,rfl,e⟩
  · exact hc pins s σ H _ us Q I r ⟨x,T,rfl,hk,q⟩
  · obtain ⟨u,w',rfl,rx,ry⟩:=yeP r
    cases ry;cases rx
    have ok:=I.hok _ _ e
    obtain ⟨_,_,vs,_,d⟩:=ok
    rw [hU] at q
    refine call_isinstance (isinstance_false_dict (zbD hU) hty hsub) ⟨?_,⟨.bl false,H,I.tok _,rfl,q⟩⟩
    obtain ⟨o,es,ep,ho,hx,_⟩:=d
    exact ⟨o,ho,hx.1⟩
theorem zeQ:yaT X (.builtin "isinstance") (yeQ X.K "int"):=yb5 (by decide) (by rfl) (by rw [isSubtype_type];kernel_rfl) yfD
theorem zeL:yaT X (.builtin "isinstance") (yeQ X.K "bool"):=yb5 (by decide) (by rfl) (by rw [isSubtype_type];kernel_rfl) ze7
theorem zdZ:yaT X (.builtin "isinstance") (yeQ X.K "tuple"):=yb5 (by decide) (by rfl) (by rw [isSubtype_type];kernel_rfl) zeG
end
end L2
end
section
-- text: ExtRo
set_option Elab.async false
set_option linter.all false
set_option maxRecDepth 100000
set_option maxHeartbeats 4000000
namespace L2
open PySem PySem.Spec PyProof.Rows
theorem zdu (elt t1 i1 t2 i2:Expr) (scope:Scope) (pos:Pos) (it acc:Value) (env:Env) :
    compTurn (.ListComp elt [⟨t1,i1,[],0⟩,⟨t2,i2,[],0⟩] scope pos) 0 it acc env=(standAt i1.pos >>= fun _=>pyNext it >>= fun r=>match r with
      | none=>pure (.done .next)
      | some v=>letOwnedTupleGo t1 it v >>= fun _=>assign t1 env v >>= fun _ =>
        (eval i2 env >>= fun x=>standAt i2.pos >>= fun _=>foldedSetIterable i2 env x >>= fun x=>holding [x] (pyIter x) >>= fun it2 =>
          runOwn (.compStart (.ListComp elt [⟨t1,i1,[],0⟩,⟨t2,i2,[],0⟩] scope pos) 1 it2 acc env) env >>= fun _ =>
          again (.compLoop (.ListComp elt [⟨t1,i1,[],0⟩,⟨t2,i2,[],0⟩] scope pos) 0 it acc env))):=by rfl
theorem ydj (elt t1 i1 t2 i2:Expr) (scope:Scope) (pos:Pos) (it acc:Value) (env:Env) :
    compTurn (.ListComp elt [⟨t1,i1,[],0⟩,⟨t2,i2,[],0⟩] scope pos) 1 it acc env=(standAt i2.pos >>= fun _=>pyNext it >>= fun r=>match r with
      | none=>pure (.done .next)
      | some v=>letOwnedTupleGo t2 it v >>= fun _=>assign t2 env v >>= fun _ =>
        (eval elt env >>= fun x=>call (.builtin "list.append") [acc,x] >>= fun _=>pure ()) >>= fun _ =>
          again (.compLoop (.ListComp elt [⟨t1,i1,[],0⟩,⟨t2,i2,[],0⟩] scope pos) 1 it acc env)):=by rfl
section
variable {prog:Program} {w:World} {A:Around} {R:Result→Shared→Prop} {s:Shared}
theorem ybC {elt t1 i1 t2 i2 scope pos it acc env}
    (h0:codeAny (model prog w) A (.compLoop (.ListComp elt [⟨t1,i1,[],0⟩,⟨t2,i2,[],0⟩] scope pos) 1 it acc env) R s)
    (h:wpAny (model prog w) A (pyIter it) (fun it' s'=>codeAny (model prog w) A (.compLoop (.ListComp elt [⟨t1,i1,[],0⟩,⟨t2,i2,[],0⟩] scope pos) 1 it' acc env) R s')
      (notedBy (model prog w) A env fun x s'=>R (.error x) s') s) :
    codeAny (model prog w) A (.compStart (.ListComp elt [⟨t1,i1,[],0⟩,⟨t2,i2,[],0⟩] scope pos) 1 it acc env) R s:=by
  refine codeAny_of_tree ?_
  show wpAny _ _ ((compStart (.ListComp elt [⟨t1,i1,[],0⟩,⟨t2,i2,[],0⟩] scope pos) 1 it acc env).onRaise (fun x=>do noteFrame x env;standAt theWindowsPlace)) _ _ s
  refine wpAny_notedAt ?_
  unfold compStart
  show wpAny _ _ (ask >>= _) _ _ s
  refine wpAny_bind (wpAny_askSetting (wpAny_ite ?_))
  split
  · first
      | exact wpAny_bind (wpAny_pure (wpAny_pure (And.intro rfl h0)))
      | exact wpAny_pure (And.intro rfl h0)
  · first
      | exact wpAny_bind (wpAny_rule (wpAny_bind (wpAny_standAt (wpAny_bind (wpAny_mono h (fun it' s' h'=>wpAny_pure (And.intro rfl h')) fun _ _ x=>x)))))
      | (refine wpAny_bind (wpAny_rule ?_);show wpAny _ _ (standAt i2.pos >>= _) _ _ s;exact wpAny_bind (wpAny_standAt (wpAny_bind (wpAny_mono h (fun it' s' h'=>wpAny_pure (And.intro rfl h')) fun _ _ x=>x))))
theorem zdq {elt t1 i1 t2 i2:Expr} {scope:Scope} {pos:Pos} {it acc:Value} {env:Env} (I:Nat→Shared→Prop)
    (turn:∀n s,I n s→wpAny (model prog w) A (pyNext it) (fun r s₁=>match r with
      | none=>R (.ok .next) s₁
      | some v=>wpAny (model prog w) A (letOwnedTupleGo t2 it v) (fun _ s₁'=>wpAny (model prog w) A (assign t2 env v) (fun _ s₂ =>
          wpAny (model prog w) A (eval elt env) (fun x s₄ =>
            wpAny (model prog w) A (call (.builtin "list.append") [acc,x]) (fun _ s₅=>∃m,m<n∧I m s₅) (fun _ _=>False) s₄) (fun _ _=>False) s₂) (fun _ _=>False) s₁') (fun _ _=>False) s₁) (fun _ _=>False) s)
    (n:Nat) (h:I n s):codeAny (model prog w) A (.compLoop (.ListComp elt [⟨t1,i1,[],0⟩,⟨t2,i2,[],0⟩] scope pos) 1 it acc env) R s:=by
  refine codeAny_loop rfl I (fun n s hI=>?_) n h
  show wpAny _ A ((compTurn (.ListComp elt [⟨t1,i1,[],0⟩,⟨t2,i2,[],0⟩] scope pos) 1 it acc env).onRaise (fun x=>do noteFrame x env;theTreesLotGoes x)) _ _ s
  refine wpAny_noted (wpAny_noRaise ?_)
  rw [ydj]
  refine wpAny_bind (wpAny_standAt (wpAny_bind (wpAny_mono (turn n s hI) (fun r s₁ h₁=>?_) fun _ _ h'=>h')))
  cases r with
  | none=>exact wpAny_pure h₁
  | some v =>
    refine wpAny_bind (wpAny_mono h₁ (fun _ s₁' h₁'=>?_) fun _ _ h'=>h')
    refine wpAny_bind (wpAny_mono h₁' (fun _ s₂ h₂=>?_) fun _ _ h'=>h')
    exact wpAny_bind (wpAny_bind (wpAny_mono h₂ (fun x s₄ h₄=>wpAny_bind (wpAny_mono h₄ (fun _ s₅ h₅=>wpAny_pure (wpAny_pure ⟨rfl,h₅⟩)) fun _ _ h'=>h')) fun _ _ h'=>h'))
theorem ydi {elt t1 i1 t2 i2:Expr} {scope:Scope} {pos:Pos} {it acc:Value} {env:Env} (I:Nat→Shared→Prop)
    (turn:∀n s,I n s→wpAny (model prog w) A (pyNext it) (fun r s₁=>match r with
      | none=>R (.ok .next) s₁
      | some v=>wpAny (model prog w) A (letOwnedTupleGo t1 it v) (fun _ s₁'=>wpAny (model prog w) A (assign t1 env v) (fun _ s₂ =>
          wpAny (model prog w) A (eval i2 env) (fun x s₃=>wpAny (model prog w) A (pyIter x) (fun it2 s₄ =>
            codeAny (model prog w) A (.compStart (.ListComp elt [⟨t1,i1,[],0⟩,⟨t2,i2,[],0⟩] scope pos) 1 it2 acc env) (fun r s₅=>r = .ok .next∧∃m,m<n∧I m s₅) s₄) (fun _ _=>False) s₃) (fun _ _=>False) s₂) (fun _ _=>False) s₁') (fun _ _=>False) s₁) (fun _ _=>False) s)
    (n:Nat) (h:I n s) (hs:∀x,foldedSetIterable i2 env x=pure x):codeAny (model prog w) A (.compLoop (.ListComp elt [⟨t1,i1,[],0⟩,⟨t2,i2,[],0⟩] scope pos) 0 it acc env) R s:=by
  refine codeAny_loop rfl I (fun n s hI=>?_) n h
  show wpAny _ A ((compTurn (.ListComp elt [⟨t1,i1,[],0⟩,⟨t2,i2,[],0⟩] scope pos) 0 it acc env).onRaise (fun x=>do noteFrame x env;theTreesLotGoes x)) _ _ s
  refine wpAny_noted (wpAny_noRaise ?_)
  rw [zdu]
  refine wpAny_bind (wpAny_standAt (wpAny_bind (wpAny_mono (turn n s hI) (fun r s₁ h₁=>?_) fun _ _ h'=>h')))
  cases r with
  | none=>exact wpAny_pure h₁
  | some v =>
    refine wpAny_bind (wpAny_mono h₁ (fun _ s₁' h₁'=>?_) fun _ _ h'=>h')
    refine wpAny_bind (wpAny_mono h₁' (fun _ s₂ h₂=>?_) fun _ _ h'=>h')
    refine wpAny_bind (wpAny_mono h₂ (fun x s₃ h₃=>?_) fun _ _ h'=>h')
    refine wpAny_bind (wpAny_standAt (wpAny_bind (wpAny_of_eq (hs x) (wpAny_bind (wpAny_holding (wpAny_mono h₃ (fun it2 s₄ h₄=>?_) fun _ _ h'=>h'))))))
    refine wpAny_bind (wpAny_runOwn (codeAny_mono h₄ fun r s₅ h₅=>?_))
    obtain ⟨rfl,h₅⟩:=h₅
    exact wpAny_pure ⟨rfl,h₅⟩
end
noncomputable def tIn (wi2:TI) (g2:TG) (te:TE) (acc:List V) (N:List V→Hp→Prop):St→Hp→Prop:=fun σ H=>wi2 σ H fun J H1=>∃W:Nat→Nat→St→List V→Hp→Prop,(∃m,W 0 m σ acc H1)∧∀i m σ acc H,W i m σ acc H→
  (J.stop i H∧N acc H)∨
  (J.go i H∧acc.length<sizeLine∧∃N2:St→List V→Hp→Prop,(∀σ' acc' H',N2 σ' acc' H'→∃m',m'<m∧W (i+1) m' σ' acc' H')∧∀x H',J.yld i H x H'→g2 x σ H' fun σ2 H2=>te σ2 H2 fun v H3=>N2 σ2 (acc++[v]) H3)
noncomputable def zfe (wi:TI) (k:Nat) (ci:List Nat) (g:TG) (wi2:TI) (g2:TG) (te:TE):TE:=fun σ H Q=>wi σ H fun J H1=>∃W:zeV,(∃m,W 0 m [] H1)∧∀i m acc H,W i m acc H→
  (J.stop i H∧∀D,H D=none→Q (.ref D) (upd H D (.lst acc)))∨
  (J.go i H∧∃N:List V→Hp→Prop,(∀acc' H',N acc' H'→∃m',m'<m∧W (i+1) m' acc' H')∧∀x H',J.yld i H x H'→g x (capσ k ci σ) H' fun σ2 H2=>tIn wi2 g2 te acc N σ2 H2)
section
variable {X:Cx}
theorem zfU {elt t1 i1 t2 i2:Expr} {scope:Scope} {pos:Pos} {wi2:TI} {g2:TG} {te:TE} {pins:List (Addr×Obj)} {s:Shared} {σ:St} {H:Hp} {D:Addr} {vs:List V} {us:List Value} {k:Nat} {N:List V→Hp→Prop}
    (hxe:X.xe=fun _ _=>False) (hcalm:X.calm=true) (hi:PI X t2 i2 wi2) (hg:PG X t2 g2) (he:PE X elt te)
    (hDC:D≠X.env.locals) (hDfs:D∉X.fs) (hDcell:∀x c,X.env.cells.lookup x=some c→c≠D) (hDge:X.s₀.heap.objs.size≤D) (hDp:∀p∈X.pn++pins,p.1≠D)
    (I:Inv X pins σ H s) (fD:H D=none) (eD:s.heap.get? D=some { cls:=.type "list",data:=.seq us.toArray k }) (rv:Vals vs us) (z:vs.length≤sizeLine) (h:tIn wi2 g2 te vs N σ H) :
    wpAny (model X.prog X.w) X.A (eval i2 X.env) (fun v s1=>wpAny (model X.prog X.w) X.A (pyIter v) (fun itv s2 =>
      codeAny (model X.prog X.w) X.A (.compStart (.ListComp elt [⟨t1,i1,[],0⟩,⟨t2,i2,[],0⟩] scope pos) 1 itv (.ref D) X.env)
        (fun r s'=>r = .ok .next∧∃σ' vs' us' k' H',Inv X pins σ' H' s'∧H' D=none∧s'.heap.get? D=some { cls:=.type "list",data:=.seq us'.toArray k' }∧Vals vs' us'∧vs'.length≤sizeLine∧N vs' H') s2) (fun _ _=>False) s1) (fun _ _=>False) s:=by
  let pD:List Value→Nat→List (Addr×Obj):=fun us k=>[(D,{ cls:=.type "list",data:=.seq us.toArray k })]
  have memD:∀ {us k},(D,({ cls:=.type "list",data:=.seq us.toArray k }:Obj))∈X.pn++(pins++pD us k):=fun {us k}=>List.mem_append_right _ (List.mem_append_right _ List.mem_cons_self)
  have pinD:∀ {σ':St} {H':Hp} {s':Shared} {us:List Value} {k:Nat},Inv X pins σ' H' s'→H' D=none→s'.heap.get? D=some { cls:=.type "list",data:=.seq us.toArray k }→Inv X (pins++pD us k) σ' H' s':=fun {σ' H' s' us k} J f e =>
    J.pins_of fun p hp=>(List.mem_append.mp hp).elim (fun z=>J.pin p (List.mem_append_right _ z)) fun z=>by
      have:p=(D,{ cls:=.type "list",data:=.seq us.toArray k }):=by simpa [pD] using z
      subst this
      exact ⟨e,f,hDC,hDfs,fun v z=>by cases z⟩
  have hi2:=hi (pins++pD us k) s σ H _ (pinD I fD eD) h
  rw [hxe] at hi2
  refine thn hi2 fun v s1 h1=>thn h1 fun itv s2 h2=>?_
  obtain ⟨it,fp,tn,J,H2,e,I2,T,st2,f2,W,⟨m0,w0⟩,turn⟩:=h2
  subst e
  have hDfp:∀b∈fp,b≠D:=fun b hb zz=>(f2 b hb).2.2.2.2.2 _ memD zz.symm
  have stat:∀ {H':Hp} {us:List Value} {k:Nat},(∀b∈fp,H' b=none)→∀b∈fp,FpOk X (pins++pD us k) H' b:=fun {H' us k} hn b hb=>by
    obtain ⟨_,a2,a3,a4,a5,a6⟩:=f2 b hb
    refine ⟨hn b hb,a2,a3,a4,a5,fun p hp=>?_⟩
    rcases List.mem_append.mp hp with zz|zz
    · exact a6 p (List.mem_append_left _ zz)
    · rcases List.mem_append.mp zz with zz|zz
      · exact a6 p (List.mem_append_right _ (List.mem_append_left _ zz))
      · have:p=(D,{ cls:=.type "list",data:=.seq us.toArray k }):=by simpa [pD] using zz
        subst this
        exact fun q=>hDfp b hb q.symm
  have loop:codeAny (model X.prog X.w) X.A (.compLoop (.ListComp elt [⟨t1,i1,[],0⟩,⟨t2,i2,[],0⟩] scope pos) 1 (.ref it) (.ref D) X.env)
      (fun r s'=>r = .ok .next∧∃σ' vs' us' k' H',Inv X pins σ' H' s'∧H' D=none∧s'.heap.get? D=some { cls:=.type "list",data:=.seq us'.toArray k' }∧Vals vs' us'∧vs'.length≤sizeLine∧N vs' H') s2:=by
    refine zdq (fun n s'=>∃i σ' vs us k H',Inv X pins σ' H' s'∧tn i s'.heap∧(∀b∈fp,H' b=none)∧H' D=none∧s'.heap.get? D=some { cls:=.type "list",data:=.seq us.toArray k }∧Vals vs us∧vs.length≤sizeLine∧W i n σ' vs H') ?_ m0
      ⟨0,σ,vs,us,k,H2,I2.unpinned,st2,fun b hb=>(f2 b hb).1,(I2.pin _ memD).2.1,(I2.pin _ memD).1,rv,z,w0⟩
    rintro n s3 ⟨i,σ3,vs3,us3,k3,H3,I3,st3,fr3,fD3,e3,rv3,z3,w3⟩
    rcases turn i n σ3 vs3 H3 w3 with ⟨stop,qn⟩ | ⟨go,zl,N2,hN,step⟩
    · refine thn (T.done X rfl rfl rfl hcalm i (pins++pD us3 k3) s3 σ3 H3 _ (pinD I3 fD3 e3) (stat fr3) st3 stop) fun r s4 ⟨hr,I4⟩=>?_
      subst hr
      exact ⟨rfl,σ3,vs3,us3,k3,H3,I4.unpinned,fD3,(I4.pin _ memD).1,rv3,z3,qn⟩
    · refine thn (T.item X rfl rfl rfl hcalm i (pins++pD us3 k3) s3 σ3 H3 _ (pinD I3 fD3 e3) (stat fr3) st3 go) fun r s4 ⟨u,hr,h4⟩=>?_
      subst hr
      refine thn h4 fun _ s5 ⟨x,H5,I5,r5,y5,st5,fr5⟩=>?_
      have I5':=I5.pinned (stat fr5) (T.obj _ _ st5)
      have hgg:=hg _ s5 σ3 H5 x u _ I5' r5 (step x H5 y5)
      rw [hxe] at hgg
      refine thn hgg fun _ s6 ⟨σ6,H6,I6,q6⟩=>?_
      have hee:=he _ s6 σ6 H6 _ I6 q6
      rw [hxe] at hee
      refine thn hee fun y s8 ⟨yv,H8,I8,r8,q8⟩=>?_
      obtain ⟨m',hm,w8⟩:=hN _ _ _ q8
      have e8:=I8.unpinned.pin _ memD
      have pb:∀b∈fp,∀o,s5.heap.get? b=some o→s8.heap.get? b=some o∧H8 b=none:=fun b hb o e=>by
        have:=I8.pin (b,o) (List.mem_append_right _ (List.mem_append_right _ (za6 hb e)))
        exact ⟨this.1,this.2.1⟩
      refine call_meets F.slot_list_append ⟨_,e8.1,rfl⟩ F.entry_list_append (F.args_list_append_2 _ _) (PySem.list_append D us3.toArray k3 y (by rw [List.size_toArray,←rv3.length];exact z3)) ⟨e8.1,?_⟩
      have q:=PySem.IsL.update e8.1 (·.push y)
      have J0:Inv X pins σ6 H8 s8:=I8.unpinned.unpinned
      refine ⟨m',hm,i+1,σ6,vs3++[yv],us3++[y],_,H8,J0.turned (it:=D) (t':=s8.toks) (fun b o hb hu=>(Heap.get?_update_other s8.heap _ (Ne.symm hb)).trans hu) e8.2.1 hDC (.inr hDge) hDcell hDp,?_,?_,e8.2.1,by simpa using q,rv3.append (.cons r8 .nil),by simp;omega,w8⟩
      · exact T.keep _ _ _ st5 fun b hb o e=>(Heap.get?_update_other s8.heap _ (fun zz=>hDfp b hb zz.symm)).trans (pb b hb o e).1
      · intro b hb
        obtain ⟨o,e,_⟩:=T.obj _ _ st5 b hb
        exact (pb b hb o e).2
  exact ybC loop (T.self X.A 0 _ _ _ st2 loop)
theorem zeJ {elt target iter t2 i2:Expr} {scope:Scope} {pos:Pos} {tg cp:List Str} {ci:List Nat} {wi wi2:TI} {g g2:TG} {te:TE}
    {pins:List (Addr×Obj)} {s:Shared} {σ:St} {H:Hp} {Q:VK} {cl:List (Str×Addr)}
    (S:CSc X.N X.env.scope tg cp ci scope) (hcalm:X.calm=true) (hi:PI X target iter wi)
    (hcl1:∀n c,cl.lookup n=some c→X.env.cells.lookup n=some c) (hcl2:∀n,(n,NameKind.free)∈scope.names→∃c,cl.lookup n=some c)
    (hg:∀C fp s H,PG (cxC X (tg++cp) scope cl C fp s H) target g) (hi2:∀C fp s H,PI (cxC X (tg++cp) scope cl C fp s H) t2 i2 wi2) (hg2:∀C fp s H,PG (cxC X (tg++cp) scope cl C fp s H) t2 g2) (he:∀C fp s H,PE (cxC X (tg++cp) scope cl C fp s H) elt te)
    (hs2:∀env x,foldedSetIterable i2 env x=pure x) (I:Inv X pins σ H s) (h:zfe wi tg.length ci g wi2 g2 te σ H Q) :
    wpAny (model X.prog X.w) X.A (eval iter X.env) (fun x s₁=>wpAny (model X.prog X.w) X.A (pyIter x) (fun it s₂=>wpAny (model X.prog X.w) X.A (newList []) (fun acc s₃ =>
      wpAny (model X.prog X.w) X.A (newFunctionEnv scope X.env.globals cl [] X.env.qual none .none (some X.env)) (fun cenv s₄ =>
        codeAny (model X.prog X.w) X.A (.compStart (.ListComp elt [⟨target,iter,[],0⟩,⟨t2,i2,[],0⟩] scope pos) 0 it acc { cenv with scope:=relabel scope X.env })
          (fun r s'=>∃D vs H',acc = .ref D∧r = .ok .next∧Inv X pins σ (upd H' D (.lst vs)) s'∧H' D=none∧Gone X pins (upd H' D (.lst vs)) s' cenv.locals∧∀D',H' D'=none→Q (.ref D') (upd H' D' (.lst vs))) s₄) X.xe s₃) X.xe s₂) X.xe s₁) X.xe s:=by
  refine thn (hi pins s σ H _ I h) fun v s1 h1=>thn h1 fun itv s2 h2=>?_
  obtain ⟨it,fp,tn,J,H2,e,I2,T,st2,f2,W,⟨m0,w0⟩,turn⟩:=h2
  subst e
  refine wpAny_newObj_type (wpAny_newFunctionEnv S.nocell (by intro y hy;simp at hy) (fun h₁ hns₁ hsb₁=>?_) S.kind)
  dsimp only at hns₁ hsb₁ ⊢
  generalize hHL:s2.heap.push { cls:=.type "list",dict:=none,data:=.seq ([]:List Value).toArray }=HL at hns₁ hsb₁ ⊢
  have hC:HL.objs.size=s2.heap.objs.size+1:=by rw [←hHL,Heap.size_push]
  generalize hD:s2.heap.objs.size=D at hC ⊢
  generalize hCC:HL.objs.size=C at hns₁ hsb₁ hC ⊢
  have hDC:D≠C:=by omega
  have old:∀b o,s2.heap.get? b=some o→h₁.get? b=some o:=fun b o e=>by
    have lt:s2.heap.objs.size≥Nat.succ b:=Heap.lt_size e
    refine hsb₁.extBut b o (show @Ne Nat b C by omega) (Heap.get?_push_of_some _ (hHL ▸ Heap.get?_push_of_some _ e))
  have hD1:h₁.get? D=some { cls:=.type "list",data:=.seq ([]:List Value).toArray 0 }:=by
    refine hsb₁.extBut D _ hDC (Heap.get?_push_of_some _ ?_)
    rw [←hHL,←hD]
    exact Heap.get?_push_size _ rfl
  have fD:H2 D=none:=I2.hok.fresh (by omega)
  have fC:H2 C=none:=I2.hok.fresh (by omega)
  let X':Cx:=cxC X (tg++cp) scope cl C fp s2 H2
  have ok':X'.Ok:=by
    refine ⟨I2.ok.mod,?_,I2.ok.glob,I2.ok.blt,?_,?_,?_,?_,I2.ok.hd,I2.ok.frames,.inl rfl,?_,I2.bs,Nat.le_trans I2.ok.bsz I2.sz,?_,?_,I2.stack,I2.stkFree⟩
    · exact S.kind
    · show s2.heap.objs.size≤C;omega
    · intro x y c hx hy;exact I2.ok.inj x y c (hcl1 x c hx) (hcl1 y c hy)
    · intro x hx
      have hx':(relabel scope X.env).names.lookup x=some .cell∨(relabel scope X.env).names.lookup x=some .free:=hx
      have q:scope.names.lookup x=some .free∨scope.names.lookup x=some .cell:=by
        rcases hx' with z|z
        · exact zaO z (.inl rfl)
        · exact zaO z (.inr rfl)
      rcases q with q|q
      · exact hcl2 x (zaR q)
      · exact absurd rfl (S.nocell _ (zaR q))
    · intro x c hx;cases hx
    · intro b hb
      obtain ⟨o,eo,_⟩:=T.obj _ _ st2 b hb
      have lt:s2.heap.objs.size≥Nat.succ b:=Heap.lt_size eo
      exact ⟨by show @Ne Nat b C;omega,fun x c hx=>(f2 b hb).2.2.2.2.1 x c (hcl1 x c hx)⟩
    · intro b o e hb
      rcases (f2 b hb).2.2.2.1 with z|z
      · exact I2.ok.noex b o e z
      · have l1:X.base.objs.size≥Nat.succ b:=Heap.lt_size e
        have l2:X.base.objs.size≤X.s₀.heap.objs.size:=I2.ok.bsz
        have l3:X.s₀.heap.objs.size≤(b:Nat):=z
        omega
    · intro b hb hbs
      rcases List.mem_cons.mp (I2.stkSub b hbs) with z|z
      · exact (f2 b hb).2.1 z
      · exact (f2 b hb).2.2.1 z
  have capLen:(capσ tg.length ci σ).length=X'.N.length:=by
    show (List.replicate tg.length none++ci.map fun i=>(σ[i]?).join).length=(tg++cp).length
    have:=congrArg List.length S.at_
    simp only [List.length_map] at this
    simp [this]
  have capLook:∀(h':Heap) (m':Str→Option Value),(∀x c o,X.env.cells.lookup x=some c→s2.heap.get? c=some o→∃sl,h'.get? c=some { o with slots:=sl })→
      ∀(i:Nat) (x:Str) (v:V),X'.N[i]?=some x→(capσ tg.length ci σ)[i]?=some (some v)→Vis X'.env.scope x→∃u,RelV v u∧Look X'.env h' m' x u:=by
    intro h' m' hcell i x v e1 e2 e3
    have e1':(tg++cp)[i]?=some x:=e1
    have e2':(List.replicate tg.length none++ci.map fun i=>(σ[i]?).join)[i]?=some (some v):=e2
    by_cases hi':i<tg.length
    · rw [List.getElem?_append_left (by simpa using hi'),List.getElem?_replicate] at e2'
      split at e2' <;> cases e2'
    · rw [List.getElem?_append_right (by simpa using hi'),List.length_replicate,List.getElem?_map] at e2'
      rw [List.getElem?_append_right (by omega)] at e1'
      cases hj:ci[i-tg.length]? with
      | none=>rw [hj] at e2';cases e2'
      | some j =>
        rw [hj] at e2'
        have e2'':(σ[j]?).join=some v:=Option.some.inj e2'
        have e4:σ[j]?=some (some v):=by
          cases q:σ[j]? with
          | none=>rw [q] at e2'';cases e2''
          | some z=>rw [q] at e2'';exact congrArg some e2''
        have e5:X.N[j]?=some x:=by
          have:=congrArg (·[i-tg.length]?) S.at_
          simp only [List.getElem?_map,hj,e1',Option.map_some] at this
          exact Option.some.inj this
        have hx:scope.names.lookup x=some .free:=S.cap x (List.mem_of_getElem? e1')
        have hk:=S.free (x,.free) (zaR hx) rfl
        obtain ⟨m,hn,hl⟩:=I2.loc
        obtain ⟨u,r,l⟩:=hl j x v e5 e4 (.inr hk)
        refine ⟨u,r,.inr ⟨?_,?_⟩⟩
        · exact ybq hx
        · rcases l with ⟨k1,_⟩ | ⟨_,c,k2,k3⟩
          · have k1':X.env.scope.names.lookup x=some .local:=k1
            rcases hk with z|z <;> (rw [z] at k1';cases k1')
          · obtain ⟨c',hc'⟩:=hcl2 x (zaR hx)
            have:=hcl1 x c' hc'
            rw [k2] at this;cases this
            obtain ⟨o,ho,hd⟩:=k3
            obtain ⟨sl,q⟩:=hcell x c o k2 ho
            exact ⟨c,hc',_,q,hd⟩
  have I':∀tk,Inv X' [] (capσ tg.length ci σ) H2 { s2 with heap:=h₁,toks:=tk }:=fun tk=>by
    refine ⟨ok',rfl,I2.bare,Un.kept old,⟨_,hns₁,capLook _ _ fun x c o _ e=>⟨o.slots,old c o e⟩⟩,fun x c hx=>?_,fC,fun x c hx=>I2.freeC x c (hcl1 x c hx),fun p hp=>absurd (show p∈([]:List (Addr×Obj)) from hp) (by simp),I2.hok.kept old,?_⟩
    · obtain ⟨v,o,ho,hd⟩:=I2.cell x c (hcl1 x c hx)
      exact ⟨v,o,old c o ho,hd⟩
    · exact capLen
  have recap:∀ {pl pl':List (Addr×Obj)} {σ':St} {H':Hp} {s':Shared},Inv X' (pl++pl') σ' H' s'→Inv X' pl (capσ tg.length ci σ) H' s':=fun {pl pl' σ' H' s'} J=>by
    obtain ⟨m,hn,_⟩:=J.loc
    have u:Un (frs X.stack) fp H2 H' s2.heap s'.heap:=J.base
    exact ⟨J.ok,J.os,J.bare,J.base,⟨m,hn,capLook _ _ fun x c o hx e=>u.any e (I2.freeC x c hx) fun hb=>(f2 c hb).2.2.2.2.1 x c hx rfl⟩,J.cell,J.free,J.freeC,
      fun p hp=>(List.mem_append.mp hp).elim (fun z=>J.pin p (List.mem_append_left _ z)) (fun z=>J.pin p (List.mem_append_right _ (List.mem_append_left _ z))),J.hok,capLen⟩
  have stat:∀ {H':Hp},(∀b∈fp,H' b=none)→∀b∈fp,FpOk X' [] H' b:=fun hn b hb=>by
    obtain ⟨o,eo,_⟩:=T.obj _ _ st2 b hb
    have lt:s2.heap.objs.size≥Nat.succ b:=Heap.lt_size eo
    exact ⟨hn b hb,by show @Ne Nat b C;omega,ok'.exfs b hb,.inl hb,(ok'.exf b hb).2,fun p hp=>absurd (show p∈([]:List (Addr×Obj)) from hp) (by simp)⟩
  have hDfp:D∉fp:=fun hb=>by obtain ⟨o,eo,_⟩:=T.obj _ _ st2 D hb;have lt:s2.heap.objs.size≥Nat.succ D:=Heap.lt_size eo;omega
  have hDcell:∀x c,X'.env.cells.lookup x=some c→c≠D:=fun x c hx=>by
    obtain ⟨v,o,ho,hd⟩:=I2.cell x c (hcl1 x c hx)
    have lt:s2.heap.objs.size≥Nat.succ c:=Heap.lt_size ho
    intro z;have z':@Eq Nat c D:=z;omega
  have hDfs:D∉X'.fs:=fun hb=>by
    have:D∈X.env.locals::X.fs:=I2.stkSub D hb
    rcases List.mem_cons.mp this with z|z
    · have l1:s2.heap.objs.size≥Nat.succ X.env.locals:=I2.lt
      have z':@Eq Nat D X.env.locals:=z
      omega
    · exact I2.nofs (show s2.heap.objs.size≤D by omega) z
  have fin:∀ {pl:List (Addr×Obj)} {σ':St} {H':Hp} {s':Shared} {vs:List V} {us:List Value} {k:Nat},Inv X' pl σ' H' s'→H' D=none→s'.heap.get? D=some { cls:=.type "list",data:=.seq us.toArray k }→Vals vs us→vs.length≤sizeLine→
      (∀D',H' D'=none→Q (.ref D') (upd H' D' (.lst vs)))→
      ∃D' vs H',Value.ref D = .ref D'∧(Except.ok Flow.next:Result) = .ok .next∧Inv X pins σ (upd H' D' (.lst vs)) s'∧H' D'=none∧Gone X pins (upd H' D' (.lst vs)) s' C∧∀D',H' D'=none→Q (.ref D') (upd H' D' (.lst vs)):=by
    intro pl σ' H' s' vs us k J f e r z q
    have u:Un (frs X.stack) fp H2 H' s2.heap s'.heap:=J.base
    have lt:∀ {b:Addr} {o:Obj},s2.heap.get? b=some o→b≠D:=fun {b o} eb zb=>by
      have l1:s2.heap.objs.size≥Nat.succ b:=Heap.lt_size eb
      have l2:@Eq Nat b D:=zb
      omega
    have u2:Un (frs X.stack) fp H2 (upd H' D (.lst vs)) s2.heap s'.heap :=
      ⟨u.keep,u.slot,fun b o eb n hx=>by rw [yaf (lt eb)];exact u.free b o eb n hx,u.there,
       fun b xs eb=>by rw [yaf (yae eb fD)];exact u.tups b xs eb,fun b o uu eb=>by rw [yaf (yae eb fD)];exact u.frzs b o uu eb,fun b ps eb=>by rw [yaf (yae eb fD)];exact u.tbls b ps eb⟩
    have hok2:HOk X.prog X.w (upd H' D (.lst vs)) s'.heap:=fun b o eb=>by
      by_cases hb:b=D
      · subst hb
        rw [yac] at eb;cases eb
        exact ⟨z,us,k,r,e⟩
      · rw [yaf hb] at eb
        refine (J.hok b o eb).stay (fun _ _ _ q=>q) (fun c hc=>?_) fun c xs hc=>?_
        · rw [yaf (fun zz=>by rw [zz,f] at hc;cases hc)];exact hc
        · rw [yaf (fun zz=>by rw [zz,f] at hc;cases hc)];exact hc
    refine ⟨D,vs,H',rfl,rfl,I2.call' (ch:=fp) J.os u2 hok2 J.bare ?_,f,⟨?_,?_,?_,?_,?_,?_,?_⟩,q⟩
    · intro b hb
      obtain ⟨_,a2,_,a4,a5,a6⟩:=f2 b hb
      exact ⟨a4,a2,a5,a6⟩
    · obtain ⟨m,hn,_⟩:=J.loc;exact ⟨m,hn⟩
    · rw [yaf (Ne.symm hDC)];exact J.free
    · have l1:s2.heap.objs.size≥Nat.succ X.env.locals:=I2.lt
      intro zz;have zz':@Eq Nat C X.env.locals:=zz;omega
    · have l1:X.s₀.heap.objs.size≤s2.heap.objs.size:=I2.sz
      show X.s₀.heap.objs.size≤C;omega
    · intro x c hx zz
      obtain ⟨v,o,ho,hd⟩:=I2.cell x c hx
      have l1:s2.heap.objs.size≥Nat.succ c:=Heap.lt_size ho
      have zz':@Eq Nat c C:=zz
      omega
    · intro p hp zz
      have l1:s2.heap.objs.size≥Nat.succ p.1:=Heap.lt_size (I2.pin p hp).1
      have zz':@Eq Nat p.1 C:=zz
      omega
    · exact I2.nofs (show s2.heap.objs.size≤C by omega)
  have loop:∀tk,codeAny (model X.prog X.w) X.A (.compLoop (.ListComp elt [⟨target,iter,[],0⟩,⟨t2,i2,[],0⟩] scope pos) 0 (.ref it) (.ref D) (compEnvC scope cl C X.env))
      (fun r s'=>∃D' vs H',Value.ref D = .ref D'∧r = .ok .next∧Inv X pins σ (upd H' D' (.lst vs)) s'∧H' D'=none∧Gone X pins (upd H' D' (.lst vs)) s' C∧∀D',H' D'=none→Q (.ref D') (upd H' D' (.lst vs))) { s2 with heap:=h₁,toks:=tk }:=by
    intro tk
    refine ydi (fun n s'=>∃i vs us k H',Inv X' [] (capσ tg.length ci σ) H' s'∧tn i s'.heap∧(∀b∈fp,H' b=none)∧H' D=none∧s'.heap.get? D=some { cls:=.type "list",data:=.seq us.toArray k }∧Vals vs us∧vs.length≤sizeLine∧W i n vs H') ?_ m0
      ⟨0,[],[],0,H2,I' tk,T.keep _ _ _ st2 (fun b hb o e=>old b o e),fun b hb=>(f2 b hb).1,fD,hD1,.nil,Nat.zero_le _,w0⟩ (hs2 _)
    rintro n s3 ⟨i,vs,us,k,H3,I3,st3,fr3,fD3,hD3,rv3,z3,w3⟩
    let pD:List (Addr×Obj):=[(D,{ cls:=.type "list",data:=.seq us.toArray k })]
    have pinD:∀ {σ':St} {H':Hp} {s':Shared},Inv X' [] σ' H' s'→H' D=none→s'.heap.get? D=some { cls:=.type "list",data:=.seq us.toArray k }→Inv X' pD σ' H' s':=fun {σ' H' s'} J f e =>
      J.pins_of fun p hp=>by
        have:p=(D,{ cls:=.type "list",data:=.seq us.toArray k }):=by simpa [pD] using hp
        subst this
        exact ⟨e,f,hDC,hDfs,fun v z=>by cases z⟩
    have statD:∀ {H':Hp},(∀b∈fp,H' b=none)→∀b∈fp,FpOk X' pD H' b:=fun hn b hb=>by
      obtain ⟨a1,a2,a3,a4,a5,_⟩:=stat hn b hb
      refine ⟨a1,a2,a3,a4,a5,fun p hp=>?_⟩
      have:p=(D,{ cls:=.type "list",data:=.seq us.toArray k }):=by
        have hp':p∈([]:List (Addr×Obj))++pD:=hp
        simpa [pD] using hp'
      subst this
      exact fun z=>hDfp (by rw [show D=b from z];exact hb)
    rcases turn i n vs H3 w3 with ⟨stop,qn⟩ | ⟨go,N,hN,step⟩
    · refine thn (T.done X' rfl rfl rfl hcalm i pD s3 _ H3 _ (pinD I3 fD3 hD3) (statD fr3) st3 stop) fun r s4 ⟨hr,I4⟩=>?_
      subst hr
      have eD:s4.heap.get? D=some { cls:=.type "list",data:=.seq us.toArray k }:=(I4.pin (D,_) (by simp [pD])).1
      exact fin I4 fD3 eD rv3 z3 qn
    · refine thn (T.item X' rfl rfl rfl hcalm i pD s3 _ H3 _ (pinD I3 fD3 hD3) (statD fr3) st3 go) fun r s4 ⟨u,hr,h4⟩=>?_
      subst hr
      refine thn h4 fun _ s5 ⟨x,H5,I5,r5,y5,st5,fr5⟩=>?_
      have I5':=I5.pinned (statD fr5) (T.obj _ _ st5)
      refine thn (hg C fp s2 H2 _ s5 _ H5 x u _ I5' r5 (step x H5 y5)) fun _ s6 ⟨σ6,H6,I6,q6⟩=>?_
      have e6:=I6.pin (D,_) (List.mem_append_right _ (List.mem_append_left _ (by simp [pD] <;> rfl)))
      have I6':Inv X' (ybT fp s5.heap) σ6 H6 s6:=I6.pins_of fun p hp=>I6.pin p (List.mem_append_right _ (List.mem_append_right _ hp))
      refine thn (zfU (X:=X') rfl hcalm (hi2 C fp s2 H2) (hg2 C fp s2 H2) (he C fp s2 H2) hDC hDfs hDcell (show s2.heap.objs.size≤D by omega) (fun p hp=>?_) I6' e6.2.1 e6.1 rv3 z3 q6) fun v s7 h7=>thn h7 fun itv s8 h8=>codeAny_mono h8 fun r s9 ⟨hr,σ',vs',us',k',H',J,f',e',rv',z',n'⟩=>?_
      · have hp':p∈([]:List (Addr×Obj))++ybT fp s5.heap:=hp
        obtain ⟨hb,_⟩:=zc3 (by simpa using hp')
        exact fun zz=>hDfp (by rw [←zz];exact hb)
      obtain ⟨m',hm,w'⟩:=hN _ _ n'
      have pb:∀b∈fp,∀o,s5.heap.get? b=some o→s9.heap.get? b=some o∧H' b=none:=fun b hb o e=>by
        have:=J.pin (b,o) (List.mem_append_right _ (za6 hb e))
        exact ⟨this.1,this.2.1⟩
      refine ⟨hr,m',hm,i+1,vs',us',k',H',recap (pl:=[]) (pl':=ybT fp s5.heap) J,T.keep _ _ _ st5 fun b hb o e=>(pb b hb o e).1,fun b hb=>?_,f',e',rv',z',w'⟩
      obtain ⟨o,e,_⟩:=T.obj _ _ st5 b hb
      exact (pb b hb o e).2
  exact codeAny_compStart_list (loop _) (T.self X.A 0 _ _ _ (T.keep _ _ _ st2 (fun b hb o e=>old b o e)) (loop _))
theorem zes {elt target iter t2 i2:Expr} {scope:Scope} {pos:Pos} {tg cp:List Str} {ci:List Nat} {wi wi2:TI} {g g2:TG} {te:TE}
    (S:CSc X.N X.env.scope tg cp ci scope) (hcalm:X.calm=true) (hi:PI X target iter wi)
    (hg:∀cl C fp s H,PG (cxC X (tg++cp) scope cl C fp s H) target g) (hi2:∀cl C fp s H,PI (cxC X (tg++cp) scope cl C fp s H) t2 i2 wi2) (hg2:∀cl C fp s H,PG (cxC X (tg++cp) scope cl C fp s H) t2 g2) (he:∀cl C fp s H,PE (cxC X (tg++cp) scope cl C fp s H) elt te)
    (hs:∀x,foldedSetIterable iter X.env x=pure x:=by intro _;rfl) (hs2:∀env x,foldedSetIterable i2 env x=pure x:=by intro _ _;rfl):PE X (.ListComp elt [⟨target,iter,[],0⟩,⟨t2,i2,[],0⟩] scope pos) (zfe wi tg.length ci g wi2 g2 te):=by
  intro pins s σ H Q I h
  obtain ⟨cl,hclos,h1,h2⟩:=ya8 (scope:=scope) (env:=X.env) fun x hx hf=>I.ok.has x.1 (S.free x hx hf)
  rw [eval_ListComp]
  refine wpAny_comprehension_free (use:=none) rfl hs hclos S.kind S.loc (thn (zeJ S hcalm hi h1 h2 (hg cl) (hi2 cl) (hg2 cl) (he cl) hs2 I h) fun x s1 q1=>thn q1 fun it s2 q2=>thn q2 fun acc s3 q3=>thn q3 fun cenv s4 q4=>codeAny_mono q4 fun r s' q=>?_)
  obtain ⟨D,vs,H',e1,e2,I',f,G,q⟩:=q
  subst e1 e2
  obtain ⟨m,hn⟩:=G.ns
  exact ⟨m,hn,fun h' hsb=>⟨.ref D,_,G.turned I' hsb,rfl,q D f⟩⟩
end
theorem zeE {J:It} {n:Nat} {G:Hp→Prop} {y:Nat→V→Hp→Hp→Prop} (S:Seqs J n G y) {σc:St} {g:TG} {In:List V→(List V→Hp→Prop)→St→Hp→Prop} {H:Hp} {Fn:List V→Hp→Prop} (Pv:Nat→List V→Hp→Prop) (h0:Pv 0 [] H) (hl:∀i acc H,i≤n→Pv i acc H→G H)
    (hs:∀i acc x H H',i<n→Pv i acc H→y i x H H'→g x σc H' fun σ2 H2=>In acc (Pv (i+1)) σ2 H2)
    (hd:∀acc H,Pv n acc H→Fn acc H) :
    ∃W:zeV,(∃m,W 0 m [] H)∧∀i m acc H,W i m acc H→
      (J.stop i H∧Fn acc H)∨
      (J.go i H∧∃N:List V→Hp→Prop,(∀acc' H',N acc' H'→∃m',m'<m∧W (i+1) m' acc' H')∧∀x H',J.yld i H x H'→g x σc H' fun σ2 H2=>In acc N σ2 H2):=by
  refine ⟨fun i m acc H=>m=n-i∧i≤n∧Pv i acc H,⟨n,by simp,Nat.zero_le _,h0⟩,?_⟩
  rintro i m acc H ⟨rfl,hi,p⟩
  by_cases hlt:i<n
  · exact .inr ⟨S.go i H hlt (hl i acc H hi p),Pv (i+1),fun acc' H' p'=>⟨n-(i+1),by omega,rfl,hlt,p'⟩,fun x H' q=>hs i acc x H H' hlt p (S.yld i H x H' hlt (hl i acc H hi p) q)⟩
  · have e:i=n:=by omega
    subst e
    exact .inl ⟨S.stop H (hl _ acc H hi p),hd acc H p⟩
theorem zf7 {J:It} {n:Nat} {G:Hp→Prop} {y:Nat→V→Hp→Hp→Prop} (S:Seqs J n G y) {g:TG} {te:TE} {σ:St} {acc:List V} {H:Hp} {N:List V→Hp→Prop} (Pv:Nat→St→List V→Hp→Prop) (h0:Pv 0 σ acc H) (hl:∀i σ acc H,i≤n→Pv i σ acc H→G H)
    (hz:∀i σ acc H,i<n→Pv i σ acc H→acc.length<sizeLine)
    (hs:∀i σ acc x H H',i<n→Pv i σ acc H→y i x H H'→g x σ H' fun σ2 H2=>te σ2 H2 fun v H3=>Pv (i+1) σ2 (acc++[v]) H3)
    (hd:∀σ acc H,Pv n σ acc H→N acc H) :
    ∃W:Nat→Nat→St→List V→Hp→Prop,(∃m,W 0 m σ acc H)∧∀i m σ acc H,W i m σ acc H→
      (J.stop i H∧N acc H)∨
      (J.go i H∧acc.length<sizeLine∧∃N2:St→List V→Hp→Prop,(∀σ' acc' H',N2 σ' acc' H'→∃m',m'<m∧W (i+1) m' σ' acc' H')∧∀x H',J.yld i H x H'→g x σ H' fun σ2 H2=>te σ2 H2 fun v H3=>N2 σ2 (acc++[v]) H3):=by
  refine ⟨fun i m σ acc H=>m=n-i∧i≤n∧Pv i σ acc H,⟨n,by simp,Nat.zero_le _,h0⟩,?_⟩
  rintro i m σ acc H ⟨rfl,hi,p⟩
  by_cases hlt:i<n
  · exact .inr ⟨S.go i H hlt (hl i σ acc H hi p),hz i σ acc H hlt p,Pv (i+1),fun σ' acc' H' p'=>⟨n-(i+1),by omega,rfl,hlt,p'⟩,fun x H' q=>hs i σ acc x H H' hlt p (S.yld i H x H' hlt (hl i σ acc H hi p) q)⟩
  · have e:i=n:=by omega
    subst e
    exact .inl ⟨S.stop H (hl _ σ acc H hi p),hd σ acc H p⟩
end L2
end
section
-- text: ExtRp
set_option Elab.async false
set_option linter.all false
set_option maxRecDepth 100000
set_option maxHeartbeats 4000000
namespace L2
open PySem PySem.Spec PyProof.Rows
noncomputable def yfb (A:Around) (s:Shared) (y x:Value) (b:Bool):Prop :=
  ∀(prog:Program) (w:World) (E:Value→Shared→Prop) (Q:Value→Shared→Prop),Q (.bool b) s→wpAny (model prog w) A (richCompare .Lt y x) Q E s
noncomputable def lexR:List (Bool×Bool)→Bool
  | []=>false
  | (e,l)::r=>if e=true then lexR r else l
noncomputable def Orac (A:Around) (s:Shared):List Value→List Value→List (Bool×Bool)→Prop
  | [],[],[]=>True
  | v::vs,w::ws,(e,l)::r=>SeqAt.EqAt A s v w e∧(e=false→yfb A s v w l)∧Orac A s vs ws r
  | _,_,_=>False
section
open PySem.SeqAt
open PySem.AutoSeq1 (wpAny_loadPart')
open PySem.MeetsSeq PySem.MeetsSeq2 PySem.MeetsSeq3
theorem ydd (l b:Addr) (items items2:Array Value) (n n2:Nat) (dd dd2:Option Addr) (sl sl2:Array (Option Value)) (rs:List (Bool×Bool)) (hsz:items.size=items2.size) :
    Meets (Builtin.«tuple.__lt__» ⟨[.ref l,.ref b],[]⟩)
      (fun A R s=>s.heap.get? l=some { cls:=.type "tuple",dict:=dd,data:=.seq items n,slots:=sl }∧s.heap.get? b=some { cls:=.type "tuple",dict:=dd2,data:=.seq items2 n2,slots:=sl2 }∧
        Orac A.in1 s items.toList items2.toList rs∧R (.ok (.ret (.bool (lexR rs)))) s) :=
  .of_wp fun prog w A R s h=>by
    obtain ⟨hp,g,d,tk,os⟩:=s;obtain ⟨hl,hb,ho,h⟩:=h
    have f2:=AutoSeq1.sub_tuple_tuple
    wp_walk using wpAny_loadPart' hl,wpAny_loadPart' hb,wpAny_forIn_list _ (fun rest b s'=>b.1=none∧s'=⟨hp,g,d,tk,os⟩∧∃(vs ws:List Value) (r':List (Bool×Bool)),rest=vs.zip ws∧
      Orac A.in1 ⟨hp,g,d,tk,os⟩ vs ws r'∧R (.ok (.ret (.bool (lexR r')))) ⟨hp,g,d,tk,os⟩) _
    case turn =>
      rintro ⟨y,x⟩ rest b s' ⟨hb',rfl,vs,ws,r',hz,hor,hR⟩
      match vs,ws,r',hor with
      | [],[],[],_=>cases hz
      | v::vs,w2::ws,(e,lt)::r,hor =>
        rw [List.zip_cons_cons] at hz
        injection hz with hyx hrest
        injection hyx with hy hx
        subst hy hx
        obtain ⟨he,hl',hor⟩:=hor
        refine wpAny_bind (he prog w _ _ ?_)
        cases e with
        | true =>
          have hR:R (.ok (.ret (.bool (lexR r)))) ⟨hp,g,d,tk,os⟩:=hR
          wp_walk
          exact ⟨rfl,rfl,_,_,_,hrest,hor,hR⟩
        | false =>
          have hR:R (.ok (.ret (.bool lt))) ⟨hp,g,d,tk,os⟩:=hR
          have hri:=hl' rfl prog w
          wp_walk using hri
          exact ⟨_,rfl,by simpa using hR⟩
    case fin =>
      rintro ⟨b1,b2⟩ s' ⟨hb',rfl,vs,ws,r',hz,hor,hR⟩
      simp only at hb'
      subst hb'
      match vs,ws,r',hor with
      | [],[],[],_ =>
        have hR:R (.ok (.ret (.bool false))) ⟨hp,g,d,tk,os⟩:=hR
        have hv:false=decide (items.size<items2.size):=(decide_eq_false (by omega)).symm
        rw [hv] at hR
        wp_walk
        exact ⟨_,rfl,by simpa [Builtin.Tuple.tupleCompareSizes] using hR⟩
      | v::vs,w2::ws,(e,lt)::r,hor=>rw [List.zip_cons_cons] at hz;cases hz
    case h =>
      exact ⟨rfl,rfl,items.toList,items2.toList,rs,rfl,ho,h⟩
end
theorem ycS:∀ {vs:List Value} {ns ms:List Int},IntsAre vs ns→IntsAre vs ms→ns=ms
  | _,_,_,.nil,.nil=>rfl
  | _,_,_,.cons a t h,.cons _ _ h'=>by rw [ycS h h']
theorem zbM:∀ns:List Int,HT.lexLt ns ns=false
  | []=>rfl
  | x::xs=>by rw [HT.lexLt_cons,if_pos rfl];exact zbM xs
section
variable {X:Cx}
noncomputable def rLtN (K:PySem.W.Frag):R2:=fun x y H Q=>∃(a b a2 b2:Addr) (i j:Int) (ns ms:List Int),x = .ref a∧y = .ref b∧SqT K H a [.int i,.ref a2]∧SqT K H b [.int j,.ref b2]∧SqT K H a2 (ns.map V.int)∧SqT K H b2 (ms.map V.int)∧Q (.bl (if i=j then HT.lexLt ns ms else decide (i<j))) H
theorem yf5 (hu:X.A.units+64<cLine):OpR X (compareOp .Lt) (rLtN X.K):=by
  intro pins s σ H x y v u Q I rx ry h
  obtain ⟨a,b,a2,b2,i,j,ns,ms,rfl,rfl,ha,hb,ha2,hb2,q⟩:=h
  cases rx;cases ry
  obtain ⟨its,r1,p1,_⟩:=I.tuple ha
  obtain ⟨its2,r2,p2,_⟩:=I.tuple hb
  obtain ⟨us,r3,p3,_⟩:=I.tuple ha2
  obtain ⟨vs,r4,p4,_⟩:=I.tuple hb2
  obtain ⟨t1,rfl⟩:∃t,its=[.int i t,.ref a2]:=by
    cases r1 with
    | cons h1 r1 =>
      cases r1 with
      | cons h2 r1 =>
        cases r1
        cases h2
        obtain ⟨t,rfl⟩:=h1
        exact ⟨t,rfl⟩
  obtain ⟨t2,rfl⟩:∃t,its2=[.int j t,.ref b2]:=by
    cases r2 with
    | cons h1 r2 =>
      cases r2 with
      | cons h2 r2 =>
        cases r2
        cases h2
        obtain ⟨t,rfl⟩:=h1
        exact ⟨t,rfl⟩
  have i3:IntsAre us.toArray.toList ns:=yco r3
  have i4:IntsAre vs.toArray.toList ms:=yco r4
  have hlt:yfb X.A.in1 s (.ref a2) (.ref b2) (HT.lexLt ns ms):=fun prog w E Q hq=>HT.lt_tupInts p3 p4 i3 i4 (show X.A.units+1<cLine by omega) hq
  obtain ⟨e2,he2,hv2⟩:∃e2,SeqAt.EqAt X.A.in1 s (.ref a2) (.ref b2) e2∧(if e2=true then false else HT.lexLt ns ms)=HT.lexLt ns ms:=by
    by_cases hne:a2=b2
    · subst hne
      refine ⟨true,SeqAt.EqAt.same _,?_⟩
      have e:ns=ms:=by
        obtain ⟨o,ho,_,n,hd⟩:=id p3
        obtain ⟨o',ho',_,n',hd'⟩:=id p4
        rw [ho] at ho'
        cases ho'
        rw [hd] at hd'
        injection hd' with e1 e2
        rw [←e1] at i4
        exact ycS i3 i4
      rw [if_pos rfl,e,zbM]
    · refine ⟨_,SeqAt.EqAt.of_refs hne (SeqAt.RcAt.tuples p3 p4 (show X.A.units+1<cLine by omega) (yeC r3 r4)),?_⟩
      have l1:=r3.length
      have l2:=r4.length
      rw [List.length_map] at l1 l2
      rw [List.size_toArray,List.size_toArray,←l1,←l2,yeo]
      by_cases c:ns=ms
      · rw [decide_eq_true c,if_pos rfl,c,zbM]
      · rw [decide_eq_false c,if_neg Bool.false_ne_true]
  obtain ⟨⟨cls,dd,data,sl⟩,ho,hc,n,hd⟩:=id p1
  obtain ⟨⟨cls2,dd2,data2,sl2⟩,ho2,hc2,n2,hd2⟩:=id p2
  simp only at hc hd hc2 hd2
  subst hc hd hc2 hd2
  have ev:lexR [((i==j),decide (i<j)),(e2,HT.lexLt ns ms)]=(if i=j then HT.lexLt ns ms else decide (i<j)):=by
    unfold lexR
    by_cases c:i=j
    · rw [if_pos (by simpa using c),if_pos c]
      unfold lexR
      unfold lexR
      exact hv2
    · rw [if_neg (by simpa using c),if_neg c]
  refine richCompare_meets_room (op:=.Lt) ⟨_,ho,rfl⟩ ⟨_,ho2,rfl⟩ PySem.F.slot_tuple_lt PySem.F.entry_tuple_lt (PySem.F.args_tuple_lt_2 _ _) (ydd a b #[.int i t1,.ref a2] #[.int j t2,.ref b2] n n2 dd dd2 sl sl2 [((i==j),decide (i<j)),(e2,HT.lexLt ns ms)] rfl)
    ⟨ho,ho2,⟨SeqAt.EqAt.int_int i t1 j t2,fun _ prog w E Q hq=>HT.rcLt_int _ _ i t1 j t2 prog w E Q hq,he2,fun _=>hlt,trivial⟩,(show Value.bool (lexR [((i==j),decide (i<j)),(e2,HT.lexLt ns ms)])≠Value.notImplemented∧_ from ⟨(fun x=>nomatch x),?_⟩)⟩ (by omega)
  rw [ev]
  exact ⟨.bl _,H,I,rfl,q⟩
end
end L2
end
section
-- text: P1
set_option Elab.async false
set_option linter.all false
set_option maxRecDepth 100000
set_option maxHeartbeats 4000000
namespace My
open PySem L2 Dg
noncomputable def top (i:Nat):Stmt:=PySem.Challenge.pw_roundwords_k26_best_wide_papers.main.body.getD i (.Pass ⟨0,0,0,0⟩)
noncomputable abbrev ya5:Stmt:=top 1
noncomputable abbrev yaO:Stmt:=top 2
noncomputable abbrev yaC:Stmt:=top 3
noncomputable abbrev yar:Stmt:=top 4
noncomputable abbrev zaA:Stmt:=top 5
noncomputable abbrev zcr:Stmt:=top 14
noncomputable abbrev yaI:Stmt:=top 15
noncomputable abbrev zbw:Stmt:=top 16
noncomputable abbrev ybM:Stmt:=top 17
noncomputable abbrev za5:Stmt:=top 18
noncomputable abbrev ybw:Stmt:=top 20
noncomputable abbrev yaS:Stmt:=top 23
noncomputable abbrev yaQ:Stmt:=top 24
noncomputable abbrev yaA:Stmt:=top 25
noncomputable abbrev zaP:Stmt:=top 26
noncomputable abbrev ya6:Stmt:=top 28
noncomputable abbrev zaG:Stmt:=top 29
noncomputable abbrev zaT:Stmt:=top 31
noncomputable abbrev yaV:Stmt:=top 32
noncomputable abbrev yaH:Stmt:=top 33
noncomputable abbrev zaK:Stmt:=top 34
noncomputable abbrev yaK:Stmt:=top 35
noncomputable abbrev zaD:Stmt:=top 36
noncomputable abbrev zaw:Stmt:=top 37
noncomputable abbrev yaF:Stmt:=top 38
noncomputable abbrev yaG:Stmt:=top 39
noncomputable abbrev yaR:Stmt:=top 40
noncomputable abbrev zaS:Stmt:=top 41
noncomputable abbrev zaV:Stmt:=top 42
noncomputable abbrev yaq:Stmt:=top 43
noncomputable abbrev zaQ:Stmt:=top 44
noncomputable abbrev yaJ:Stmt:=top 45
noncomputable abbrev ya4:Stmt:=top 46
noncomputable abbrev zaJ:Stmt:=top 47
noncomputable abbrev yaD:Stmt:=top 48
noncomputable abbrev ycN:Stmt:=top 49
noncomputable def zfg:List Str:=["range","len","abs","min","max","all","any","isinstance","int","bool","tuple","list","zip","enumerate","repr","dict","reversed","sorted","sum","set","str"]
noncomputable abbrev Bl (mg:Str→Option Value):Prop:=∀x∈zfg,mg x=none
noncomputable def Fld (K:PySem.W.Frag) (H:Hp) (a:Addr) (p m t:Nat):Prop:=SqT K H a [.int p,.int m,.int t]
theorem Same.tup {K:PySem.W.Frag} {H H':Hp} {a:Addr} {xs:List V} (e:Same H H') (h:SqT K H a xs):SqT K H' a xs:=by
  rcases h with (h | ⟨o,h⟩)|h
  · exact .inl (.inl (e _ _ h))
  · exact .inl (.inr ⟨o,e _ _ h⟩)
  · exact .inr h
noncomputable def mI (σ:St) (i:Nat):Nat:=match σ[i]? with
  | some (some (.int n))=>n.toNat
  | _=>0
local macro_rules | `(tactic| walk_at "rd") => `(tactic| repeat (first | refine ⟨_, rfl, ?_⟩ | refine ⟨_, _, rfl, rfl, ?_⟩))
theorem yeL {t u:TT} {σ:St} {H:Hp} {Q:Bool→Hp→Prop} {b1 b2:Bool} (h1:∀Q:Bool→Hp→Prop,Q b1 H→t σ H Q) (h2:∀Q:Bool→Hp→Prop,Q b2 H→u σ H Q) (q:Q (b1||b2) H):tOr t u σ H Q:=by
  refine h1 _ ?_
  cases b1
  · exact h2 _ q
  · exact q
theorem zcC {t u:TT} {σ:St} {H:Hp} {Q:Bool→Hp→Prop} {b1 b2:Bool} (h1:∀Q:Bool→Hp→Prop,Q b1 H→t σ H Q) (h2:b1=true→∀Q:Bool→Hp→Prop,Q b2 H→u σ H Q) (q:Q (b1&&b2) H):tAnd t u σ H Q:=by
  refine h1 _ ?_
  cases b1
  · exact q
  · exact h2 rfl _ q
theorem zdM {X:Cx} {a:Expr} {ta:TE} {j:Nat} {p q:Pos} (ha:PE X a ta):PT X (.Compare a [.Is] [.Constant .none j p] q) (tB (tIsN ta)):=zfO (yfL ha)
theorem yeX {X:Cx} {st:Stmt}:PS X st (fun _ _ _=>False):=fun _ _ _ _ _ _ h=>h.elim
section
variable {P:Program} {w:World} {K:PySem.W.Frag} {mg:Str→Option Value} {base:Heap} {f:Addr} {fd:FuncData}
noncomputable def ydq (K:PySem.W.Frag):Sp:=fun vs H Q _=>∃(a:Addr) (p m t x y:Nat),vs=[.ref a,.int x,.int y]∧Fld K H a p m t∧2≤p∧p≤64∧∀r:Nat,(∀i,dg p i r=(dg p i x+dg p i y)%p)→Q (.int r) H
theorem ybt:zak ["field","one","other","p","total","unit"] ["field","one","other"] (zac zcr):=⟨rfl,rfl,rfl,by decide +kernel,rfl,by decide +kernel,by decide +kernel⟩
theorem yfC (B:Bl mg) (F:Fun K "plus" "plus" zcr f fd):FnOk P w K mg base CX0 1 f fd ["field","one","other"] (ydq K):=by
  refine F.ok ybt (fun vs H Q E h=>?_) (fun cdv A outer s H vs Q E hr h=>?_)
  · obtain ⟨a,p,m,t,x,y,rfl,_⟩:=h;rfl
  obtain ⟨a,p,m,t,x,y,rfl,hF,hp,hp2,q⟩:=h
  refine ⟨_,(@yaa _ _ _ _ _ (@yag _ _ 3 _ _ _ _ ybt.nd rfl (Or.inl rfl) (@zan _ _ _ _ _ _ _ yaw (pv 0) zab (fun _ _=>rfl)) (by rfl) (by first|exact .inl rfl|exact .inr rfl|assumption)) (@yaa _ _ _ _ _ (@yag _ _ 4 _ _ _ _ ybt.nd rfl (Or.inl rfl) zab (by rfl) (by first|exact .inl rfl|exact .inr rfl|assumption)) (@yaa _ _ _ _ _ (@yag _ _ 5 _ _ _ _ ybt.nd rfl (Or.inl rfl) zab (by rfl) (by first|exact .inl rfl|exact .inr rfl|assumption)) (@yaa _ _ _ _ _ (@yax _ _ _ _ _ _ PassesOwn.never (@PW.pt _ _ _ (@ycL _ _ _ _ _ _ _ (@zah _ _ _ _ _ _ _ _ zby (pv 1) zab (yai _)) (@zbG _ _ _ _ (@zah _ _ _ _ _ _ _ _ zby (pv 2) zab (yai _))))) (@yaa _ _ _ _ _ (@zbn _ _ 4 _ _ _ _ _ _ ybt.nd rfl (Or.inl rfl) (@zag _ _ _ _ _ _ _ _ yaL (@zag _ _ _ _ _ _ _ _ zav (@zag _ _ _ _ _ _ _ _ zao (pv 1) (pv 2)) (pv 3)) (pv 5)) yb1 (by first|exact .inl rfl|exact .inr rfl|assumption)) (@yaa _ _ _ _ _ (@zbn _ _ 1 _ _ _ _ _ _ ybt.nd rfl (Or.inl rfl) (pv 3) zcy (by first|exact .inl rfl|exact .inr rfl|assumption)) (@yaa _ _ _ _ _ (@zbn _ _ 2 _ _ _ _ _ _ ybt.nd rfl (Or.inl rfl) (pv 3) zcy (by first|exact .inl rfl|exact .inr rfl|assumption)) (@zad _ _ _ (@zbn _ _ 5 _ _ _ _ _ _ ybt.nd rfl (Or.inl rfl) (pv 3) zdw (by first|exact .inl rfl|exact .inr rfl|assumption))))))) (@zad _ _ _ (@yal _ _ _ _ (pv 4))))))),?_⟩
  refine ⟨_,rfl,a,_,_,_,rfl,rfl,hF,rfl,?_⟩
  refine zax (fun σ H'=>H'=H∧∃(k o u tt:Nat),σ=[some (.ref a),some (.int o),some (.int u),some (.int p),some (.int tt),some (.int ((p^k:Nat):Int))]∧o=x/p^k∧u=y/p^k∧tt<p^k∧∀i,i<k→dg p i tt=(dg p i x+dg p i y)%p)
    (fun σ _=>mI σ 1+mI σ 2) ⟨rfl,0,x,y,0,rfl,by simp,by simp,by simp,fun i hi=>absurd hi (Nat.not_lt_zero _)⟩ ?_
  rintro σ H' ⟨rfl,k,o,u,tt,rfl,ho,hu,ht,hd⟩
  have pk:0<p^k:=Nat.pow_pos (by omega)
  refine yeL (b1:=decide ((0:Int)<o)) (b2:=decide ((0:Int)<u)) (fun Q q=>⟨_,rfl,_,_,rfl,rfl,_,rfl,q⟩) (fun Q q=>⟨_,rfl,_,_,rfl,rfl,_,rfl,q⟩) ?_
  refine ite2 (fun c=>?_) (fun c=>?_)
  · simp only [Bool.or_eq_true,decide_eq_true_eq] at c
    refine ⟨fun σ' H''=>H''=H'∧σ'=[some (.ref a),some (.int ((o/p:Nat):Int)),some (.int ((u/p:Nat):Int)),some (.int p),some (.int ((tt+(o+u)%p*p^k:Nat):Int)),some (.int ((p^k*p:Nat):Int))],?_,?_⟩
    · rintro σ' H'' ⟨rfl,rfl⟩
      have l1:o/p≤o:=Nat.div_le_self _ _
      have l2:u/p≤u:=Nat.div_le_self _ _
      have l3:o/p<o∨u/p<u:=by
        rcases c with c|c
        · exact .inl (Nat.div_lt_self (by omega) (by omega))
        · exact .inr (Nat.div_lt_self (by omega) (by omega))
      refine ⟨_,?_,rfl,rfl,k+1,o/p,u/p,tt+(o+u)%p*p^k,rfl,?_,?_,?_,fun i hi=>?_⟩
      · show o/p+u/p<o+u;omega
      · rw [ho,Nat.pow_succ,Nat.div_div_eq_div_mul]
      · rw [hu,Nat.pow_succ,Nat.div_div_eq_div_mul]
      · exact yfl ht (Nat.mod_lt _ (by omega))
      · rw [yfg hp ht (Nat.mod_lt _ (by omega))]
        by_cases e:i=k
        · rw [if_pos e,ho,hu,e];unfold dg;rw [Nat.add_mod]
        · rw [if_neg e];exact hd i (by omega)
    · walk_at "rd"
      refine ⟨by show (0:Int)<p;omega,?_⟩
      walk_at "rd"
      have hm:(o+u)%p<p:=Nat.mod_lt _ (by omega)
      refine ⟨.inl ⟨by show -(2^64:Int)<(((o+u)%p:Nat):Int);omega,by show (((o+u)%p:Nat):Int)<2^64;omega⟩,?_⟩
      walk_at "rd"
      refine ⟨⟨by show (0:Int)<p;omega,by show (p:Int)<2^64;omega⟩,?_⟩
      walk_at "rd"
      refine ⟨⟨by show (0:Int)<p;omega,by show (p:Int)<2^64;omega⟩,?_⟩
      walk_at "rd"
      refine ⟨.inr ⟨by show -(2^64:Int)<p;omega,by show (p:Int)<2^64;omega⟩,?_⟩
      exact ⟨rfl,rfl⟩
  · simp only [Bool.or_eq_true,decide_eq_true_eq,not_or] at c
    refine ⟨_,rfl,q tt fun i=>?_⟩
    by_cases e:i<k
    · exact hd i e
    · have hx:x<p^k:=by
        rcases Nat.lt_or_ge x (p^k) with h|h
        · exact h
        · have:=Nat.div_pos h pk;omega
      have hy:y<p^k:=by
        rcases Nat.lt_or_ge y (p^k) with h|h
        · exact h
        · have:=Nat.div_pos h pk;omega
      rw [zaI hp ht (by omega),zaI hp hx (by omega),zaI hp hy (by omega)]
      simp
noncomputable def ybe (K:PySem.W.Frag):Sp:=fun vs H Q _=>∃(a:Addr) (p m t d x:Nat),vs=[.ref a,.int d,.int x]∧Fld K H a p m t∧2≤p∧p≤64∧d<2^64∧∀r:Nat,(∀i,dg p i r=d*dg p i x%p)→Q (.int r) H
theorem yav:zak ["field","digit","one","p","total","unit"] ["field","digit","one"] (zac yaI):=⟨rfl,rfl,rfl,by decide +kernel,rfl,by decide +kernel,by decide +kernel⟩
theorem zcg (B:Bl mg) (F:Fun K "digit_times" "digit_times" yaI f fd):FnOk P w K mg base CX0 1 f fd ["field","digit","one"] (ybe K):=by
  refine F.ok yav (fun vs H Q E h=>?_) (fun cdv A outer s H vs Q E hr h=>?_)
  · obtain ⟨a,p,m,t,x,y,rfl,_⟩:=h;rfl
  obtain ⟨a,p,m,t,d,x,rfl,hF,hp,hp2,hd2,q⟩:=h
  refine ⟨_,(@yaa _ _ _ _ _ (@yag _ _ 3 _ _ _ _ yav.nd rfl (Or.inl rfl) (@zan _ _ _ _ _ _ _ yaw (pv 0) zab (fun _ _=>rfl)) (by rfl) (by first|exact .inl rfl|exact .inr rfl|assumption)) (@yaa _ _ _ _ _ (@yag _ _ 4 _ _ _ _ yav.nd rfl (Or.inl rfl) zab (by rfl) (by first|exact .inl rfl|exact .inr rfl|assumption)) (@yaa _ _ _ _ _ (@yag _ _ 5 _ _ _ _ yav.nd rfl (Or.inl rfl) zab (by rfl) (by first|exact .inl rfl|exact .inr rfl|assumption)) (@yaa _ _ _ _ _ (@yax _ _ _ _ _ _ PassesOwn.never (@zah _ _ _ _ _ _ _ _ zby (pv 2) zab (yai _)) (@yaa _ _ _ _ _ (@zbn _ _ 4 _ _ _ _ _ _ yav.nd rfl (Or.inl rfl) (@zag _ _ _ _ _ _ _ _ yaL (@zag _ _ _ _ _ _ _ _ zav (@zag _ _ _ _ _ _ _ _ yaL (pv 1) (pv 2)) (pv 3)) (pv 5)) yb1 (by first|exact .inl rfl|exact .inr rfl|assumption)) (@yaa _ _ _ _ _ (@zbn _ _ 2 _ _ _ _ _ _ yav.nd rfl (Or.inl rfl) (pv 3) zcy (by first|exact .inl rfl|exact .inr rfl|assumption)) (@zad _ _ _ (@zbn _ _ 5 _ _ _ _ _ _ yav.nd rfl (Or.inl rfl) (pv 3) zdw (by first|exact .inl rfl|exact .inr rfl|assumption)))))) (@zad _ _ _ (@yal _ _ _ _ (pv 4))))))),?_⟩
  refine ⟨_,rfl,a,_,_,_,rfl,rfl,hF,rfl,?_⟩
  refine zax (fun σ H'=>H'=H∧∃(k o tt:Nat),σ=[some (.ref a),some (.int d),some (.int o),some (.int p),some (.int tt),some (.int ((p^k:Nat):Int))]∧o=x/p^k∧tt<p^k∧∀i,i<k→dg p i tt=d*dg p i x%p)
    (fun σ _=>mI σ 2) ⟨rfl,0,x,0,rfl,by simp,by simp,fun i hi=>absurd hi (Nat.not_lt_zero _)⟩ ?_
  rintro σ H' ⟨rfl,k,o,tt,rfl,ho,ht,hd⟩
  have pk:0<p^k:=Nat.pow_pos (by omega)
  walk_at "rd"
  refine ite2 (fun c=>?_) (fun c=>?_)
  · have c':0<o:=by have:=of_decide_eq_true c;omega
    refine ⟨fun σ' H''=>H''=H'∧σ'=[some (.ref a),some (.int d),some (.int ((o/p:Nat):Int)),some (.int p),some (.int ((tt+d*o%p*p^k:Nat):Int)),some (.int ((p^k*p:Nat):Int))],?_,?_⟩
    · rintro σ' H'' ⟨rfl,rfl⟩
      refine ⟨_,?_,rfl,rfl,k+1,o/p,tt+d*o%p*p^k,rfl,?_,?_,fun i hi=>?_⟩
      · show o/p<o;exact Nat.div_lt_self c' (by omega)
      · rw [ho,Nat.pow_succ,Nat.div_div_eq_div_mul]
      · exact yfl ht (Nat.mod_lt _ (by omega))
      · rw [yfg hp ht (Nat.mod_lt _ (by omega))]
        by_cases e:i=k
        · rw [if_pos e,ho,e];unfold dg;rw [Nat.mul_mod_mod]
        · rw [if_neg e];exact hd i (by omega)
    · have hm:d*o%p<p:=Nat.mod_lt _ (by omega)
      walk_at "rd"
      refine ⟨.inl ⟨by show -(2^64:Int)<(d:Int);omega,by show (d:Int)<2^64;omega⟩,?_⟩
      walk_at "rd"
      refine ⟨by show (0:Int)<p;omega,?_⟩
      walk_at "rd"
      refine ⟨.inl ⟨by show -(2^64:Int)<((d*o%p:Nat):Int);omega,by show ((d*o%p:Nat):Int)<2^64;omega⟩,?_⟩
      walk_at "rd"
      refine ⟨⟨by show (0:Int)<p;omega,by show (p:Int)<2^64;omega⟩,?_⟩
      walk_at "rd"
      refine ⟨.inr ⟨by show -(2^64:Int)<p;omega,by show (p:Int)<2^64;omega⟩,?_⟩
      exact ⟨rfl,rfl⟩
  · have c':o=0:=by have:=of_decide_eq_false (Bool.eq_false_iff.mpr c);omega
    refine ⟨_,rfl,q tt fun i=>?_⟩
    by_cases e:i<k
    · exact hd i e
    · have hx:x<p^k:=by
        rcases Nat.lt_or_ge x (p^k) with h|h
        · exact h
        · have:=Nat.div_pos h pk;omega
      rw [zaI hp ht (by omega),zaI hp hx (by omega)]
      simp
noncomputable def zau:Sp:=fun vs H Q _=>∃(b k:Nat),vs=[.int b,.int k]∧b≤64∧k≤1000∧Q (.int ((b^k:Nat):Int)) H
theorem yaU:zak ["base","many","product","step"] ["base","many"] (zac yaC):=⟨rfl,rfl,rfl,by decide +kernel,rfl,by decide +kernel,by decide +kernel⟩
theorem yb4 (B:Bl mg) (F:Fun K "number_power" "number_power" yaC f fd):FnOk P w K mg base CX0 1 f fd ["base","many"] zau:=by
  refine F.ok yaU (fun vs H Q E h=>?_) (fun cdv A outer s H vs Q E hr h=>?_)
  · obtain ⟨b,k,rfl,_⟩:=h;rfl
  obtain ⟨b,k,rfl,hb,hk,q⟩:=h
  refine ⟨_,(@yaa _ _ _ _ _ (@yag _ _ 2 _ _ _ _ yaU.nd rfl (Or.inl rfl) zab (by rfl) (by first|exact .inl rfl|exact .inr rfl|assumption)) (@yaa _ _ _ _ _ (@zaz _ _ _ _ _ _ _ _ PassesOwn.never rfl (@yay _ _ _ _ _ _ rfl (B "range" (by decide)) (@zaa _ _ _ _ _ (pv 1) yab (by rfl)) (by rfl)) (@zaf _ _ 3 _ yaU.nd rfl (Or.inl rfl) (by first|exact .inl rfl|exact .inr rfl|assumption)) (@zad _ _ _ (@zbn _ _ 2 _ _ _ _ _ _ yaU.nd rfl (Or.inl rfl) (pv 0) zdw (by first|exact .inl rfl|exact .inr rfl|assumption))) (by intro _;rfl)) (@zad _ _ _ (@yal _ _ _ _ (pv 2))))),?_⟩
  refine ⟨_,rfl,k,rfl,by omega,by omega,zaY (n:=k) (fun i σ H'=>H'=H∧∃s,σ=[some (.int b),some (.int k),some (.int ((b^i:Nat):Int)),s]) ⟨rfl,none,rfl⟩ ?_ ?_⟩
  · rintro i σ H' hi ⟨rfl,s,rfl⟩
    walk_at "rd"
    refine ⟨.inr ⟨by omega,by omega⟩,rfl,some (.int (0+(i:Int))),?_⟩
    rw [Nat.pow_succ];rfl
  · rintro σ H' ⟨rfl,s,rfl⟩
    exact ⟨_,rfl,q⟩
theorem ybc {i j:Int} (h:i=j):V.int i=V.int j:=congrArg V.int h
noncomputable def ycT (K:PySem.W.Frag):Sp:=fun vs H Q _=>∃(a:Addr) (p m t x:Nat),vs=[.ref a,.int x]∧Fld K H a p m t∧2≤p∧1≤m∧p^m≤64∧t<p^m∧x<p^m∧∀r:Nat,(∀i,dg p i r=yaE m (fun i=>dg p i t) (fun i=>dg p i x) i%p)→Q (.int r) H
theorem p_le {p m:Nat} (hp:2≤p) (hm:1≤m) (h:p^m≤64):p≤64:=Nat.le_trans (by simpa using Nat.pow_le_pow_right (n:=p) (by omega) hm) h
theorem m_le {p m:Nat} (hp:2≤p) (h:p^m≤64):m≤6:=by
  rcases Nat.lt_or_ge 6 m with h1|h1
  · have:=Nat.pow_le_pow_left hp m
    have:=Nat.pow_le_pow_right (n:=2) (by omega) h1
    omega
  · exact h1
theorem ybg:zak ["field","one","p","m","top","last_unit","moved"] ["field","one"] (zac zbw):=⟨rfl,rfl,rfl,by decide +kernel,rfl,by decide +kernel,by decide +kernel⟩
theorem zev (B:Bl mg) (h_plus:Has P w K mg base 1 "plus" ["field","one","other"] (ydq K)) (h_digit_times:Has P w K mg base 1 "digit_times" ["field","digit","one"] (ybe K)) (h_number_power:Has P w K mg base 1 "number_power" ["base","many"] zau) (F:Fun K "lifted" "lifted" zbw f fd):FnOk P w K mg base CX0 2 f fd ["field","one"] (ycT K):=by
  refine F.ok ybg (fun vs H Q E h=>?_) (fun cdv A outer s H vs Q E hr h=>?_)
  · obtain ⟨a,p,m,t,x,rfl,_⟩:=h;rfl
  obtain ⟨a,p,m,t,x,rfl,hF,hp,hm,hpm,ht,hx,q⟩:=h
  have hp2:=p_le hp hm hpm
  have hm6:=m_le hp hpm
  refine ⟨_,(@yaa _ _ _ _ _ (@ybn _ _ _ _ _ _ (pv 0) (@zbo _ _ _ _ _ _ rfl (@yak _ _ _ _ _ (@zaf _ _ 2 _ ybg.nd rfl (Or.inl rfl) (by first|exact .inl rfl|exact .inr rfl|assumption)) (@yak _ _ _ _ _ (@zaf _ _ 3 _ ybg.nd rfl (Or.inl rfl) (by first|exact .inl rfl|exact .inr rfl|assumption)) (@yak _ _ _ _ _ (@zaf _ _ 4 _ ybg.nd rfl (Or.inl rfl) (by first|exact .inl rfl|exact .inr rfl|assumption)) za1 (by rfl)) (by rfl)) (by rfl)) (by rfl) (by rfl)) (by rfl) (by rfl) (by rfl)) (@yaa _ _ _ _ _ (@yag _ _ 5 _ _ _ _ ybg.nd rfl (Or.inl rfl) (@zae _ _ _ _ _ _ _ _ _ _ _ h_number_power hr (by decide) rfl (@zaa _ _ _ _ _ (pv 2) (@zaa _ _ _ _ _ (@zag _ _ _ _ _ _ _ _ zbA (pv 3) zab) yab (by rfl)) (by rfl)) (by decide) (by rfl) (by rfl)) (by rfl) (by first|exact .inl rfl|exact .inr rfl|assumption)) (@yaa _ _ _ _ _ (@yag _ _ 6 _ _ _ _ ybg.nd rfl (Or.inl rfl) (@zag _ _ _ _ _ _ _ _ yaL (@zag _ _ _ _ _ _ _ _ zav (pv 1) (pv 5)) (pv 2)) (by rfl) (by first|exact .inl rfl|exact .inr rfl|assumption)) (@zad _ _ _ (@yal _ _ _ _ (@zae _ _ _ _ _ _ _ _ _ _ _ h_plus hr (by decide) rfl (@zaa _ _ _ _ _ (pv 0) (@zaa _ _ _ _ _ (pv 6) (@zaa _ _ _ _ _ (@zae _ _ _ _ _ _ _ _ _ _ _ h_digit_times hr (by decide) rfl (@zaa _ _ _ _ _ (pv 0) (@zaa _ _ _ _ _ (@zag _ _ _ _ _ _ _ _ zdb (pv 1) (pv 5)) (@zaa _ _ _ _ _ (pv 4) yab (by rfl)) (by rfl)) (by rfl)) (by decide) (by rfl) (by rfl)) yab (by rfl)) (by rfl)) (by rfl)) (by decide) (by rfl) (by rfl))))))),?_⟩
  refine ⟨_,rfl,a,_,rfl,hF,rfl,_,_,rfl,_,_,rfl,_,_,rfl,rfl,?_⟩
  walk_at "rd"
  refine ⟨p,m-1,by dsimp only;rw [show ((m:Nat):Int)-1=((m-1:Nat):Int) by omega];rfl,hp2,by omega,?_⟩
  have hl:p^(m-1)≤64:=Nat.le_trans (Nat.pow_le_pow_right (by omega) (by omega)) hpm
  have hl0:0<p^(m-1):=Nat.pow_pos (by omega)
  walk_at "rd"
  refine ⟨by show (0:Int)<((p^(m-1):Nat):Int);omega,?_⟩
  walk_at "rd"
  refine ⟨.inr ⟨by show -(2^64:Int)<(p:Int);omega,by show (p:Int)<2^64;omega⟩,?_⟩
  walk_at "rd"
  refine ⟨⟨by show (0:Int)<((p^(m-1):Nat):Int);omega,by show ((p^(m-1):Nat):Int)<2^64;omega⟩,?_⟩
  walk_at "rd"
  have hdl:=zfB hp hm hx
  have hdl2:=yfT hp (m-1) x
  refine ⟨a,p,m,t,x/p^(m-1),t,rfl,hF,hp,hp2,by omega,fun r1 h1=>?_⟩
  refine ⟨a,p,m,t,x%p^(m-1)*p,r1,rfl,hF,hp,hp2,fun r h2=>q r fun i=>?_⟩
  rw [h2 i,h1 i,zgd hp,yf6 hp,hdl,Nat.add_mod_mod]
  unfold yaE zaM
  by_cases hi:i<m
  · rw [if_pos hi]
    by_cases h0:i=0
    · rw [if_pos h0,if_pos h0]
    · rw [if_neg h0,if_neg h0,if_pos (by omega)]
  · rw [if_neg hi,if_neg (by omega),if_neg (by omega),zaI hp ht (by omega)]
    simp
noncomputable def ydH (K:PySem.W.Frag):Sp:=fun vs H Q _=>∃(a:Addr) (p m t x y:Nat),vs=[.ref a,.int x,.int y]∧Fld K H a p m t∧2≤p∧1≤m∧p^m≤64∧t<p^m∧x<p^m∧y<p^m∧
  ∀r:Nat,r<p^m→(∀i,i<m→dg p i r=tn m (fun i=>dg p i t) m (fun i=>dg p i x) (fun i=>dg p i y) i%p)→Q (.int r) H
theorem zbv:zak ["field","one","other","p","total"] ["field","one","other"] (zac ybM):=⟨rfl,rfl,rfl,by decide +kernel,rfl,by decide +kernel,by decide +kernel⟩
theorem yeV (B:Bl mg) (h_plus:Has P w K mg base 1 "plus" ["field","one","other"] (ydq K)) (h_digit_times:Has P w K mg base 1 "digit_times" ["field","digit","one"] (ybe K)) (h_lifted:Has P w K mg base 2 "lifted" ["field","one"] (ycT K)) (F:Fun K "times" "times" ybM f fd):FnOk P w K mg base CX0 3 f fd ["field","one","other"] (ydH K):=by
  refine F.ok zbv (fun vs H Q E h=>?_) (fun cdv A outer s H vs Q E hr h=>?_)
  · obtain ⟨a,p,m,t,x,y,rfl,_⟩:=h;rfl
  obtain ⟨a,p,m,t,x,y,rfl,hF,hp,hm,hpm,ht,hx,hy,q⟩:=h
  have hp2:=p_le hp hm hpm
  refine ⟨_,(@yaa _ _ _ _ _ (@yag _ _ 3 _ _ _ _ zbv.nd rfl (Or.inl rfl) (@zan _ _ _ _ _ _ _ yaw (pv 0) zab (fun _ _=>rfl)) (by rfl) (by first|exact .inl rfl|exact .inr rfl|assumption)) (@yaa _ _ _ _ _ (@yag _ _ 4 _ _ _ _ zbv.nd rfl (Or.inl rfl) zab (by rfl) (by first|exact .inl rfl|exact .inr rfl|assumption)) (@yaa _ _ _ _ _ (@yax _ _ _ _ _ _ PassesOwn.never (@zah _ _ _ _ _ _ _ _ zby (pv 1) zab (yai _)) (@yaa _ _ _ _ _ (@yag _ _ 4 _ _ _ _ zbv.nd rfl (Or.inl rfl) (@zae _ _ _ _ _ _ _ _ _ _ _ h_plus hr (by decide) rfl (@zaa _ _ _ _ _ (pv 0) (@zaa _ _ _ _ _ (pv 4) (@zaa _ _ _ _ _ (@zae _ _ _ _ _ _ _ _ _ _ _ h_digit_times hr (by decide) rfl (@zaa _ _ _ _ _ (pv 0) (@zaa _ _ _ _ _ (@zag _ _ _ _ _ _ _ _ zav (pv 1) (pv 3)) (@zaa _ _ _ _ _ (pv 2) yab (by rfl)) (by rfl)) (by rfl)) (by decide) (by rfl) (by rfl)) yab (by rfl)) (by rfl)) (by rfl)) (by decide) (by rfl) (by rfl)) (by rfl) (by first|exact .inl rfl|exact .inr rfl|assumption)) (@yaa _ _ _ _ _ (@zbn _ _ 1 _ _ _ _ _ _ zbv.nd rfl (Or.inl rfl) (pv 3) zcy (by first|exact .inl rfl|exact .inr rfl|assumption)) (@zad _ _ _ (@ya0 _ _ _ _ _ _ _ _ (@zah _ _ _ _ _ _ _ _ zby (pv 1) zab (yai _)) (@zad _ _ _ (@yag _ _ 2 _ _ _ _ zbv.nd rfl (Or.inl rfl) (@zae _ _ _ _ _ _ _ _ _ _ _ h_lifted hr (by decide) rfl (@zaa _ _ _ _ _ (pv 0) (@zaa _ _ _ _ _ (pv 2) yab (by rfl)) (by rfl)) (by decide) (by rfl) (by rfl)) (by rfl) (by first|exact .inl rfl|exact .inr rfl|assumption))) zat))))) (@zad _ _ _ (@yal _ _ _ _ (pv 4)))))),?_⟩
  refine ⟨_,rfl,a,_,_,_,rfl,rfl,hF,rfl,?_⟩
  refine zax (fun σ H'=>H'=H∧∃(k o u tt:Nat),σ=[some (.ref a),some (.int o),some (.int u),some (.int p),some (.int tt)]∧o<p^k∧u<p^m∧tt<p^m∧
      ∀i,i<m→(dg p i tt+tn m (fun i=>dg p i t) k (fun i=>dg p i o) (fun i=>dg p i u) i)%p=tn m (fun i=>dg p i t) m (fun i=>dg p i x) (fun i=>dg p i y) i%p)
    (fun σ _=>mI σ 1) ⟨rfl,m,x,y,0,rfl,hx,hy,Nat.pow_pos (by omega),fun i _=>by rw [ybo,Nat.zero_add]⟩ ?_
  rintro σ H' ⟨rfl,k,o,u,tt,rfl,ho,hu,htt,hd⟩
  walk_at "rd"
  refine ite2 (fun c=>?_) (fun c=>?_)
  · have c':0<o:=by have:=of_decide_eq_true c;omega
    have hk:k≠0:=fun e=>by rw [e] at ho;simp at ho;omega
    obtain ⟨k,rfl⟩:∃j,k=j+1:=⟨k-1,by omega⟩
    have om:o%p<p:=Nat.mod_lt _ (by omega)
    have ho2:o/p<p^k:=Nat.div_lt_of_lt_mul (by rw [Nat.pow_succ,Nat.mul_comm] at ho;exact ho)
    have ho3:o/p<o:=Nat.div_lt_self c' (by omega)
    refine ⟨fun σ' H''=>H''=H'∧∃(o' u' t':Nat),o'=o/p∧σ'=[some (.ref a),some (.int o'),some (.int u'),some (.int p),some (.int t')]∧u'<p^m∧t'<p^m∧
      ∀i,i<m→(dg p i t'+tn m (fun i=>dg p i t) k (fun i=>dg p i o') (fun i=>dg p i u') i)%p=tn m (fun i=>dg p i t) m (fun i=>dg p i x) (fun i=>dg p i y) i%p,?_,?_⟩
    · rintro σ' H'' ⟨rfl,o',u',t',rfl,rfl,b1,b2,b3⟩
      exact ⟨_,by show o/p<o;exact ho3,rfl,rfl,k,o/p,u',t',rfl,ho2,b1,b2,b3⟩
    walk_at "rd"
    refine ⟨by show (0:Int)<p;omega,?_⟩
    walk_at "rd"
    refine ⟨a,p,m,t,o%p,u,rfl,hF,hp,hp2,by omega,fun r1 h1=>?_⟩
    refine ⟨a,p,m,t,tt,r1,rfl,hF,hp,hp2,fun r2 h2=>?_⟩
    have hr2:r2<p^m:=ybQ hp fun i hi=>by rw [h2 i,h1 i,zaI hp htt hi,zaI hp hu hi];simp
    have hd2:∀i,i<m→(dg p i r2+tn m (fun i=>dg p i t) k (fun i=>dg p i (o/p)) (yaE m (fun i=>dg p i t) fun i=>dg p i u) i)%p=tn m (fun i=>dg p i t) m (fun i=>dg p i x) (fun i=>dg p i y) i%p:=fun i hi=>by
      rw [←hd i hi,h2 i,h1 i]
      show _=(dg p i tt+(dg p 0 o*dg p i u+tn m (fun i=>dg p i t) k (fun j=>dg p (j+1) o) (yaE m (fun i=>dg p i t) fun i=>dg p i u) i))%p
      rw [yb6,ybk,←Nat.add_assoc]
      refine ybi ?_ rfl
      rw [Nat.mod_mod]
      exact ybi rfl (Nat.mod_mod _ _)
    walk_at "rd"
    refine ⟨⟨by show (0:Int)<p;omega,by show (p:Int)<2^64;omega⟩,?_⟩
    walk_at "rd"
    refine ite2 (fun c2=>?_) (fun c2=>?_)
    · walk_at "rd"
      refine ⟨a,p,m,t,u,rfl,hF,hp,hm,hpm,ht,hu,fun r3 h3=>?_⟩
      have hr3:r3<p^m:=ybQ hp fun i hi=>by rw [h3 i];unfold yaE;rw [if_neg (by omega)];simp
      refine ⟨rfl,o/p,r3,r2,rfl,rfl,hr3,hr2,fun i hi=>?_⟩
      rw [←hd2 i hi]
      exact ybi rfl (ybj hm k _ _ _ (fun j _=>by rw [h3 j,Nat.mod_mod]) i hi)
    · have c3:o/p=0:=by have:=of_decide_eq_false (Bool.eq_false_iff.mpr c2);exact Nat.le_zero.mp (Int.ofNat_le.mp (show ((o/p:Nat):Int)≤((0:Nat):Int) from Int.not_lt.mp this))
      refine ⟨rfl,o/p,u,r2,rfl,rfl,hu,hr2,fun i hi=>?_⟩
      rw [←hd2 i hi,c3,zb5 k _ _ i (fun j=>ybo p j),zb5 k _ _ i (fun j=>ybo p j)]
  · have c':o=0:=by have:=of_decide_eq_false (Bool.eq_false_iff.mpr c);omega
    refine ⟨_,rfl,q tt htt fun i hi=>?_⟩
    rw [←hd i hi,c',zb5 k _ _ i (fun j=>ybo p j),Nat.add_zero,zfc]
end
end My
end
section
-- text: P2
set_option Elab.async false
set_option linter.all false
set_option maxRecDepth 100000
set_option maxHeartbeats 4000000
namespace My
open PySem L2 Dg
local macro_rules | `(tactic| walk_at "rd") => `(tactic| repeat (first | refine ⟨_, rfl, ?_⟩ | refine ⟨_, _, rfl, rfl, ?_⟩))
theorem yad {H:Hp} {p:Addr} (h:H p=none) (o:HO):Same H (upd H p o):=fun b u q=>by rw [yaf (yae q h)];exact q
noncomputable abbrev Vn (n:Nat):V:=.int (n:Int)
noncomputable def Pu (H:Hp) (a g:Addr):Prop:=∃(ns:List Nat) (s t:Nat),H a=some (.lst [.ref g,Vn s,Vn t])∧H g=some (.lst (ns.map Vn))
theorem Pu.ne {H:Hp} {a g:Addr} (h:Pu H a g):a≠g:=by
  obtain ⟨ns,s,t,h1,h2⟩:=h
  intro e;subst e;rw [h1] at h2
  have h3:=HO.lst.inj (Option.some.inj h2)
  cases ns with
  | nil=>cases h3
  | cons n ns=>cases h3
noncomputable def zar (a g:Addr) (H H':Hp):Prop:=∀b o,b≠a→b≠g→H b=some o→H' b=some o
theorem zar.refl {a g:Addr} {H:Hp}:zar a g H H:=fun _ _ _ _ e=>e
theorem zar.trans {a g:Addr} {H H1 H2:Hp} (h1:zar a g H H1) (h2:zar a g H1 H2):zar a g H H2:=fun b o n1 n2 e=>h2 b o n1 n2 (h1 b o n1 n2 e)
theorem Same.x {a g:Addr} {H H1:Hp} (h:Same H H1):zar a g H H1:=fun b o _ _ e=>h b o e
theorem Pu.same {H H':Hp} {a g:Addr} (h:Pu H a g) (s:Same H H'):Pu H' a g:=by
  obtain ⟨ns,x,t,h1,h2⟩:=h
  exact ⟨ns,x,t,s _ _ h1,s _ _ h2⟩
theorem szl (n:Nat) (h:n≤100000:=by omega):n≤sizeLine:=by rw [sizeLine_eq];omega
section
variable {P:Program} {w:World} {K:PySem.W.Frag} {mg:Str→Option Value} {base:Heap} {f:Addr} {fd:FuncData}
theorem yaW:zak ["_law_one","_law_many","_law_found","_law_turn"] ["_law_one","_law_many"] (zac yaH):=⟨rfl,rfl,rfl,by decide +kernel,rfl,by decide +kernel,by decide +kernel⟩
theorem yeu (B:Bl mg) (F:Fun K "_law_raised" "_law_raised" yaH f fd):FnOk P w K mg base CX0 1 f fd ["_law_one","_law_many"] zau:=by
  refine F.ok yaW (fun vs H Q E h=>?_) (fun cdv A outer s H vs Q E hr h=>?_)
  · obtain ⟨b,k,rfl,_⟩:=h;rfl
  obtain ⟨b,k,rfl,hb,hk,q⟩:=h
  refine ⟨_,(@yaa _ _ _ _ _ (@yag _ _ 2 _ _ _ _ yaW.nd rfl (Or.inl rfl) zab (by rfl) (by first|exact .inl rfl|exact .inr rfl|assumption)) (@yaa _ _ _ _ _ (@zaz _ _ _ _ _ _ _ _ PassesOwn.never rfl (@yay _ _ _ _ _ _ rfl (B "range" (by decide)) (@zaa _ _ _ _ _ (pv 1) yab (by rfl)) (by rfl)) (@zaf _ _ 3 _ yaW.nd rfl (Or.inl rfl) (by first|exact .inl rfl|exact .inr rfl|assumption)) (@zad _ _ _ (@yag _ _ 2 _ _ _ _ yaW.nd rfl (Or.inl rfl) (@zag _ _ _ _ _ _ _ _ yaL (pv 2) (pv 0)) (by rfl) (by first|exact .inl rfl|exact .inr rfl|assumption))) (by intro _;rfl)) (@zad _ _ _ (@yal _ _ _ _ (pv 2))))),?_⟩
  refine ⟨_,rfl,k,rfl,by omega,by omega,zaY (n:=k) (fun i σ H'=>H'=H∧∃s,σ=[some (.int b),some (.int k),some (.int ((b^i:Nat):Int)),s]) ⟨rfl,none,rfl⟩ ?_ ?_⟩
  · rintro i σ H' hi ⟨rfl,s,rfl⟩
    walk_at "rd"
    refine ⟨.inr ⟨by omega,by omega⟩,rfl,some (.int (0+(i:Int))),?_⟩
    rw [Nat.pow_succ];rfl
  · rintro σ H' ⟨rfl,s,rfl⟩
    exact ⟨_,rfl,q⟩
noncomputable def digL (p m x:Nat):List V:=(List.range m).map fun i=>Vn (dg p i x)
theorem zet (p m x:Nat):digL p (m+1) x=digL p m x++[Vn (dg p m x)]:=by unfold digL;rw [List.range_succ,List.map_append];rfl
theorem ybh (p m x:Nat):(digL p m x).length=m:=by simp [digL]
noncomputable def yda (K:PySem.W.Frag):Sp:=fun vs H Q _=>∃(a:Addr) (p m t x:Nat),vs=[.ref a,.int x]∧Fld K H a p m t∧2≤p∧p≤64∧m≤64∧∀r H',H r=none→Same H H'→H' r=some (.lst (digL p m x))→Q (.ref r) H'
theorem zaW:zak ["_law_field_here","_law_thing","_law_found","_law_k"] ["_law_field_here","_law_thing"] (zac zaK):=⟨rfl,rfl,rfl,by decide +kernel,rfl,by decide +kernel,by decide +kernel⟩
theorem yex (B:Bl mg) (F:Fun K "_law_digits" "_law_digits" zaK f fd):FnOk P w K mg base CX0 1 f fd ["_law_field_here","_law_thing"] (yda K):=by
  refine F.ok zaW (fun vs H Q E h=>?_) (fun cdv A outer s H vs Q E hr h=>?_)
  · obtain ⟨a,p,m,t,x,rfl,_⟩:=h;rfl
  obtain ⟨a,p,m,t,x,rfl,hF,hp,hp2,hm,q⟩:=h
  refine ⟨_,(@yaa _ _ _ _ _ (@yag _ _ 2 _ _ _ _ zaW.nd rfl (Or.inl rfl) (@zaZ _ _ _ _ yab) (by rfl) (by first|exact .inl rfl|exact .inr rfl|assumption)) (@yaa _ _ _ _ _ (@zaz _ _ _ _ _ _ _ _ PassesOwn.never rfl (@yay _ _ _ _ _ _ rfl (B "range" (by decide)) (@zaa _ _ _ _ _ (@zan _ _ _ _ _ _ _ yaw (pv 0) zab (fun _ _=>rfl)) yab (by rfl)) (by rfl)) (@zaf _ _ 3 _ zaW.nd rfl (Or.inl rfl) (by first|exact .inl rfl|exact .inr rfl|assumption)) (@yaa _ _ _ _ _ (@zbp _ _ _ _ (@ydr _ _ _ _ _ _ _ _ _ _ _ _ PySem.F.plainAttrs_list PySem.F.slot_list_append PySem.F.type_list_append ybf (pv 2) (@zaa _ _ _ _ _ (@zag _ _ _ _ _ _ _ _ zav (pv 1) (@zan _ _ _ _ _ _ _ yaw (pv 0) zab (fun _ _=>rfl))) yab (by rfl)) (by rfl) (by rfl) (by rfl) (by rfl) (by rfl)) (by rfl)) (@zad _ _ _ (@yag _ _ 1 _ _ _ _ zaW.nd rfl (Or.inl rfl) (@zag _ _ _ _ _ _ _ _ zdb (pv 1) (@zan _ _ _ _ _ _ _ yaw (pv 0) zab (fun _ _=>rfl))) (by rfl) (by first|exact .inl rfl|exact .inr rfl|assumption)))) (by intro _;rfl)) (@zad _ _ _ (@yal _ _ _ _ (pv 2))))),?_⟩
  refine ⟨szl 0,fun l hl=>?_⟩
  have g1:Same H (upd H l (.lst [])):=yad hl _
  refine ⟨_,rfl,a,_,_,_,rfl,rfl,Same.tup g1 hF,rfl,m,rfl,by omega,by omega,zaY (n:=m) (fun i σ H'=>H'=upd H l (.lst (digL p i x))∧∃s,σ=[some (.ref a),some (.int ((x/p^i:Nat):Int)),some (.ref l),s]) ⟨rfl,none,by simp;rfl⟩ ?_ ?_⟩
  · rintro i σ H' hi ⟨rfl,s,rfl⟩
    have g2:Same H (upd H l (.lst (digL p i x))):=yad hl _
    refine ⟨_,rfl,.inl ⟨rfl,_,SqL.of yac⟩,?_⟩
    walk_at "rd"
    refine ⟨a,_,_,_,rfl,rfl,Same.tup g2 hF,rfl,?_⟩
    walk_at "rd"
    refine ⟨by show (0:Int)<p;omega,l,_,_,rfl,rfl,yac,by rw [ybh];exact Nat.lt_of_le_of_lt (show i≤1000 by omega) (zap (Nat.le_refl _)),?_⟩
    rw [ydh]
    have g3:Same H (upd H l (.lst (digL p (i+1) x))):=yad hl _
    have e1:digL p i x++[V.int (((x/p^i:Nat):Int)%(p:Int))]=digL p (i+1) x:=by rw [zet];rfl
    rw [e1]
    refine ⟨_,rfl,_,rfl,a,_,_,_,rfl,rfl,Same.tup g3 hF,rfl,?_⟩
    walk_at "rd"
    refine ⟨⟨by show (0:Int)<p;omega,by show (p:Int)<2^64;omega⟩,rfl,some (.int (0+(i:Int))),?_⟩
    rw [Nat.pow_succ,←Nat.div_div_eq_div_mul];rfl
  · rintro σ H' ⟨rfl,s,rfl⟩
    exact ⟨_,rfl,q l _ hl (yad hl _) yac⟩
noncomputable def num (p:Nat):List Nat→Nat
  | []=>0
  | d::ds=>num p ds*p+d
theorem zeB {p:Nat} (hp:2≤p):∀(ds:List Nat),(∀d∈ds,d<p)→∀i,dg p i (num p ds)=ds.getD i 0
  | [],_,i=>by simp [num,ybo]
  | d::ds,h,i=>by
    have hd:d<p:=h d List.mem_cons_self
    have ih:=zeB hp ds fun x hx=>h x (List.mem_cons_of_mem _ hx)
    cases i with
    | zero=>rw [ybk];show (num p ds*p+d)%p=d;rw [Nat.mul_comm,Nat.mul_add_mod,Nat.mod_eq_of_lt hd]
    | succ i =>
      rw [zbs]
      show dg p i ((num p ds*p+d)/p)=ds.getD i 0
      rw [Nat.mul_comm,Nat.mul_add_div (by omega),Nat.div_eq_of_lt hd,Nat.add_zero]
      exact ih i
noncomputable def yc5 (K:PySem.W.Frag):Sp:=fun vs H Q _=>∃(a b:Addr) (p m t:Nat) (ds:List Nat),vs=[.ref a,.ref b]∧Fld K H a p m t∧2≤p∧p≤64∧SqL K H b (ds.map Vn)∧∀H',Same H H'→Q (Vn (num p ds)) H'
theorem zaX:zak ["_law_field_here","_law_digits_here","_law_found","_law_digit"] ["_law_field_here","_law_digits_here"] (zac yaK):=⟨rfl,rfl,rfl,by decide +kernel,rfl,by decide +kernel,by decide +kernel⟩
theorem yd5 (B:Bl mg) (F:Fun K "_law_number" "_law_number" yaK f fd):FnOk P w K mg base CX0 1 f fd ["_law_field_here","_law_digits_here"] (yc5 K):=by
  refine F.ok zaX (fun vs H Q E h=>?_) (fun cdv A outer s H vs Q E hr h=>?_)
  · obtain ⟨a,b,p,m,t,ds,rfl,_⟩:=h;rfl
  obtain ⟨a,b,p,m,t,ds,rfl,hF,hp,hp2,hb,q⟩:=h
  refine ⟨_,(@yaa _ _ _ _ _ (@yag _ _ 2 _ _ _ _ zaX.nd rfl (Or.inl rfl) zab (by rfl) (by first|exact .inl rfl|exact .inr rfl|assumption)) (@yaa _ _ _ _ _ (@zaz _ _ _ _ _ _ _ _ PassesOwn.never rfl (@za0 _ _ _ _ (@zfP _ _ _ _ _ _ _ _ (pv 1))) (@zaf _ _ 3 _ zaX.nd rfl (Or.inl rfl) (by first|exact .inl rfl|exact .inr rfl|assumption)) (@zad _ _ _ (@yag _ _ 2 _ _ _ _ zaX.nd rfl (Or.inl rfl) (@zag _ _ _ _ _ _ _ _ zao (@zag _ _ _ _ _ _ _ _ yaL (pv 2) (@zan _ _ _ _ _ _ _ yaw (pv 0) zab (fun _ _=>rfl))) (pv 3)) (by rfl) (by first|exact .inl rfl|exact .inr rfl|assumption))) (by intro _;rfl)) (@zad _ _ _ (@yal _ _ _ _ (pv 2))))),?_⟩
  refine ⟨_,rfl,b,_,rfl,hb,fun l hl=>?_⟩
  have g1:Same H (upd H l (.lst (ds.map Vn).reverse)):=yad hl _
  refine ⟨l,rfl,⟨_,SqL.of yac⟩,zdR (xs:=(ds.map Vn).reverse) (fun i σ H'=>H'=upd H l (.lst (ds.map Vn).reverse)∧∃s,σ=[some (.ref a),some (.ref b),some (Vn (num p (ds.drop (ds.length-i)))),s]) ⟨rfl,none,by rw [Nat.sub_zero,List.drop_length];rfl⟩ ?_ ?_ ?_⟩
  · rintro i σ H' hi ⟨rfl,_⟩;exact SqL.of yac
  · rintro i x σ H' hx ⟨rfl,s,rfl⟩
    have hi:i<ds.length:=by have:=(List.getElem?_eq_some_iff.mp hx).1;simpa using this
    have ex:x=Vn (ds[ds.length-1-i]):=by
      rw [List.getElem?_reverse (by simpa using hi),List.getElem?_map,List.length_map,List.getElem?_eq_getElem (by omega)] at hx
      exact (Option.some.inj hx).symm
    subst ex
    walk_at "rd"
    refine ⟨a,_,_,_,rfl,rfl,Same.tup g1 hF,rfl,?_⟩
    walk_at "rd"
    refine ⟨.inr ⟨by show -(2^64:Int)<(p:Int);omega,by show (p:Int)<2^64;omega⟩,?_⟩
    walk_at "rd"
    refine ⟨rfl,some (Vn (ds[ds.length-1-i])),?_⟩
    have e:ds.drop (ds.length-(i+1))=ds[ds.length-1-i]::ds.drop (ds.length-i):=by
      rw [show ds.length-(i+1)=ds.length-1-i by omega,List.drop_eq_getElem_cons (by omega)]
      congr 2;omega
    rw [e];rfl
  · rintro σ H' ⟨rfl,s,rfl⟩
    refine ⟨_,rfl,?_⟩
    have e:ds.length-(ds.map Vn).reverse.length=0:=by simp
    rw [e,List.drop_zero]
    exact q _ g1
noncomputable def ydP (K:PySem.W.Frag):Sp:=fun vs H Q _=>∃(a:Addr) (ns:List Int),vs=[.ref a]∧SqL K H a (ns.map V.int)∧∀r g H',H r=none→H g=none→Same H H'→Pu H' r g→Q (.ref r) H'
theorem za4:zak ["_law_script","_law_seed","_law_great","_law_cell"] ["_law_script"] (zac zaT):=⟨rfl,rfl,rfl,by decide +kernel,rfl,by decide +kernel,by decide +kernel⟩
theorem yfe {i:Int} (h:0≤i):∃n:Nat,V.int i=Vn n:=by obtain ⟨n,e⟩:=Int.eq_ofNat_of_zero_le h;exact ⟨n,by rw [e]⟩
theorem zeR (B:Bl mg) (F:Fun K "_law_purse" "_law_purse" zaT f fd):FnOk P w K mg base CX0 1 f fd ["_law_script"] (ydP K):=by
  refine F.ok za4 (fun vs H Q E h=>?_) (fun cdv A outer s H vs Q E hr h=>?_)
  · obtain ⟨a,ns,rfl,_⟩:=h;rfl
  obtain ⟨a,ns,rfl,ha,q⟩:=h
  refine ⟨_,(@yaa _ _ _ _ _ (@zbU _ _ 1 2 _ _ _ _ _ _ _ _ _ _ _ rfl za4.nd rfl rfl (by decide) rfl rfl (@zaa _ _ _ _ _ zab (@zaa _ _ _ _ _ (@zaZ _ _ _ _ yab) yab (by rfl)) (by rfl)) rfl (by rfl)) (@yaa _ _ _ _ _ (@zaz _ _ _ _ _ _ _ _ PassesOwn.never rfl (@za0 _ _ _ _ (@ydO _ _ _ _ _ _ _ _ _ _ yeb (pv 0) zex (@yeH _ _ _ zab))) (@zaf _ _ 3 _ za4.nd rfl (Or.inl rfl) (by first|exact .inl rfl|exact .inr rfl|assumption)) (@yaa _ _ _ _ _ (@yag _ _ 1 _ _ _ _ za4.nd rfl (Or.inl rfl) (@zag _ _ _ _ _ _ _ _ zav (@zag _ _ _ _ _ _ _ _ zao (@zag _ _ _ _ _ _ _ _ zao (@zag _ _ _ _ _ _ _ _ yaL (pv 1) zab) (@zag _ _ _ _ _ _ _ _ zav (pv 3) zab)) zab) zab) (by rfl) (by first|exact .inl rfl|exact .inr rfl|assumption)) (@zad _ _ _ (@ya0 _ _ _ _ _ _ _ _ (@zah _ _ _ _ _ _ _ _ zfA (@yan _ _ _ _ _ _ _ _ _ zdS rfl (B "abs" (by decide)) yb3 (@zaa _ _ _ _ _ (pv 3) yab (by rfl)) (by decide) (by decide) (by rfl) (by rfl)) (@zag _ _ _ _ _ _ _ _ zdG zab zab) (yai _)) (@zad _ _ _ (@zbp _ _ _ _ (@ydr _ _ _ _ _ _ _ _ _ _ _ _ PySem.F.plainAttrs_list PySem.F.slot_list_append PySem.F.type_list_append ybf (pv 2) (@zaa _ _ _ _ _ (@zag _ _ _ _ _ _ _ _ zav (@yan _ _ _ _ _ _ _ _ _ zdS rfl (B "abs" (by decide)) yb3 (@zaa _ _ _ _ _ (pv 3) yab (by rfl)) (by decide) (by decide) (by rfl) (by rfl)) (@zag _ _ _ _ _ _ _ _ yfy (@zag _ _ _ _ _ _ _ _ zdG zab zab) (@zag _ _ _ _ _ _ _ _ zdG zab zab))) yab (by rfl)) (by rfl) (by rfl) (by rfl) (by rfl) (by rfl)) (by rfl))) zat))) (by intro _;rfl)) (@zad _ _ _ (@yal _ _ _ _ (@zaZ _ _ _ _ (@zaa _ _ _ _ _ (pv 2) (@zaa _ _ _ _ _ (pv 1) (@zaa _ _ _ _ _ zab yab (by rfl)) (by rfl)) (by rfl))))))),?_⟩
  refine ⟨szl 0,fun g hg=>?_⟩
  have g1:Same H (upd H g (.lst [])):=yad hg _
  refine ⟨_,_,rfl,?_⟩
  refine ⟨_,rfl,_,rfl,a,_,rfl,g1.seq ha,fun l hl=>?_⟩
  generalize hcut:cutV (ns.map V.int) none (some 40)=cs
  have hcs:∀x∈cs,∃i:Int,x = .int i:=fun x hx=>by
    rw [←hcut] at hx
    unfold cutV at hx
    obtain ⟨i,_,e⟩:=List.mem_map.mp (List.mem_of_mem_drop (List.mem_of_mem_take hx))
    exact ⟨i,e.symm⟩
  have hlen:cs.length≤40:=by
    rw [←hcut];unfold cutV
    rw [List.length_take,show HT.sIx (ns.map V.int).length (ns.map V.int).length (some 40)=min 40 (ns.map V.int).length from HT.sIx_nat _ _ 40]
    omega
  have hgl:l≠g:=fun e=>by rw [e,yac] at hl;cases hl
  refine ⟨l,rfl,⟨_,SqL.of yac⟩,zdR (xs:=cs) (fun i σ H'=>(∃(s:Nat) (x:Option V) (gs:List Nat),gs.length≤i∧σ=[some (.ref a),some (Vn s),some (.ref g),x]∧H' g=some (.lst (gs.map Vn)))∧Same H H'∧H' l=some (.lst cs))
    ⟨⟨7,none,[],Nat.le_refl _,rfl,by rw [yaf (Ne.symm hgl)];exact yac⟩,g1.trans (yad hl _),yac⟩ ?_ ?_ ?_⟩
  · rintro i σ H' hi ⟨_,_,h⟩;exact SqL.of h
  · rintro i x σ H' hx ⟨⟨s,x0,gs,hgs,rfl,hg'⟩,sm,hl'⟩
    obtain ⟨c,rfl⟩:=hcs x (List.mem_of_getElem? hx)
    have hi:i<cs.length:=(List.getElem?_eq_some_iff.mp hx).1
    walk_at "rd"
    refine ⟨.inr ⟨by decide,by decide⟩,?_⟩
    walk_at "rd"
    refine ⟨by show (0:Int)<2305843009213693951;decide,?_⟩
    walk_at "rd"
    refine ⟨by show (0:Int)<2305843009213693951;decide,?_⟩
    obtain ⟨s',es⟩:=yfe (i:=((s:Int)*1000003+c%2305843009213693951+12345)%2305843009213693951) (Int.emod_nonneg _ (by decide))
    dsimp only [zas];rw [es]
    refine ⟨_,rfl,_,rfl,_,_,rfl,rfl,⟨by decide,by decide,by decide⟩,?_⟩
    refine ⟨_,_,rfl,rfl,_,rfl,?_⟩
    refine ite2 (fun c2=>?_) (fun c2=>?_)
    · refine ⟨_,rfl,.inl ⟨rfl,_,SqL.of hg'⟩,?_⟩
      refine ⟨_,rfl,_,rfl,_,_,rfl,rfl,⟨by decide,by decide,by decide⟩,?_⟩
      refine ⟨_,_,rfl,rfl,⟨by decide,by decide,by decide⟩,?_⟩
      refine ⟨_,_,rfl,rfl,IntMulOk.of_bits (by decide +kernel) (by decide +kernel),?_⟩
      refine ⟨_,_,rfl,rfl,by show (0:Int)<10^Int.toNat 60*10^Int.toNat 60;decide +kernel,?_⟩
      obtain ⟨d,ed⟩:=yfe (i:=(if c<0 then -c else c)%(10^(60:Int).toNat*10^(60:Int).toNat)) (Int.emod_nonneg _ (by decide))
      dsimp only;rw [ed]
      refine ⟨g,_,_,rfl,rfl,hg',?_,⟨s',some (.int c),gs++[d],by simp;omega,rfl,by rw [yac,List.map_append];rfl⟩,?_,?_⟩
      · rw [List.length_map];exact Nat.lt_of_le_of_lt (show gs.length≤1000 by omega) (zap (Nat.le_refl _))
      · intro b o e
        rw [yaf (yae e hg)]
        exact sm b o e
      · rw [yaf hgl];exact hl'
    · exact ⟨⟨s',some (.int c),gs,by omega,rfl,hg'⟩,sm,hl'⟩
  · rintro σ H' ⟨⟨s,x,gs,hgs,rfl,hg'⟩,sm,_⟩
    refine ⟨_,rfl,_,rfl,szl 3,fun r hr=>?_⟩
    have ne:g≠r:=yae hg' hr
    refine q r g _ (sm.free hr) hg (sm.trans (yad hr _)) ⟨gs,s,0,yac,?_⟩
    rw [yaf ne];exact hg'
theorem zcI {α:Type} (x:α) (xs:List α):atI (x::xs) 0=some x:=za8 (j:=0) rfl
theorem ydA {n:Nat} (h:0<n):ixN n 0=some 0:=by
  unfold ixN
  rw [if_pos (by decide),if_pos (by omega)];rfl
theorem zbl {t u:TS} {D:Ends} {σ:St} {H:Hp} (Ex:St→Hp→Prop) (r:∀σ' H',Ex σ' H'→u D σ' H') (h:∀D':Ends,D'.rt=D.rt→D'.bk=D.bk→D'.ct=D.ct→(∀σ' H',Ex σ' H'→D'.nx σ' H')→t D' σ H):tSeq t u D σ H:=h _ rfl rfl rfl r
noncomputable def ycA:Sp:=fun vs H Q _=>∃(a g:Addr) (n:Nat),vs=[.ref a,Vn n]∧Pu H a g∧0<n∧n<2^200∧∀(r:Nat) H',r<n→Pu H' a g→zar a g H H'→Q (Vn r) H'
noncomputable def zbX (H:Hp) (g:Addr):Nat:=match H g with
  | some (.lst xs)=>xs.length
  | _=>0
theorem zbb {H:Hp} {g:Addr} {xs:List V} (h:H g=some (.lst xs)):zbX H g=xs.length:=by unfold zbX;rw [h]
theorem modn {x:Int} {n:Nat} (h:0<n):∃r:Nat,r<n∧V.int (x%(n:Int))=Vn r:=by
  have h1:=Int.emod_nonneg x (show (n:Int)≠0 by omega)
  have h2:=Int.emod_lt_of_pos x (show (0:Int)<n by omega)
  exact ⟨(x%(n:Int)).toNat,by omega,by show V.int _=V.int _;congr 1;omega⟩
theorem yaP:zak ["_law_purse_here","_law_many","_law_digit","_law_turn","_law_prime","_law_once","_law_mixed"] ["_law_purse_here","_law_many"] (zac yaV):=⟨rfl,rfl,rfl,by decide +kernel,rfl,by decide +kernel,by decide +kernel⟩
theorem yfx (B:Bl mg) (F:Fun K "_law_pick" "_law_pick" yaV f fd):FnOk P w K mg base CX0 1 f fd ["_law_purse_here","_law_many"] ycA:=by
  refine F.ok yaP (fun vs H Q E h=>?_) (fun cdv A outer s H vs Q E hr h=>?_)
  · obtain ⟨a,g,n,rfl,_⟩:=h;rfl
  obtain ⟨a,g,n,rfl,hP,hn,hn2,q⟩:=h
  have nag:=hP.ne
  refine ⟨_,(@yaa _ _ _ _ _ (@yax _ _ _ _ _ _ PassesOwn.never (@PW.pt _ _ _ (@ybU _ _ _ _ _ _ _ (@zah _ _ _ _ _ _ _ _ (zfn hr.units0) (@zan _ _ _ _ _ _ _ yam (pv 0) zab (fun _ _=>rfl)) (@zaZ _ _ _ _ yab) (yai _)) (@zbC _ _ _ _ (@zah _ _ _ _ _ _ _ _ yby (@zan _ _ _ _ _ _ _ yam (@zan _ _ _ _ _ _ _ yam (pv 0) zab (fun _ _=>rfl)) zab (fun _ _=>rfl)) zab (yai _))))) (@zad _ _ _ (@zbp _ _ _ _ (@ydr _ _ _ _ _ _ _ _ _ _ _ _ PySem.F.plainAttrs_list PySem.F.slot_list_pop PySem.F.type_list_pop zeY (@zan _ _ _ _ _ _ _ yam (pv 0) zab (fun _ _=>rfl)) (@zaa _ _ _ _ _ zab yab (by rfl)) (by rfl) (by rfl) (by rfl) (by rfl) (by rfl)) (by rfl)))) (@yaa _ _ _ _ _ (@ya0 _ _ _ _ _ _ _ _ (@zah _ _ _ _ _ _ _ _ (zfn hr.units0) (@zan _ _ _ _ _ _ _ yam (pv 0) zab (fun _ _=>rfl)) (@zaZ _ _ _ _ yab) (yai _)) (@yaa _ _ _ _ _ (@yag _ _ 2 _ _ _ _ yaP.nd rfl (Or.inl rfl) (@zag _ _ _ _ _ _ _ _ zav (@zan _ _ _ _ _ _ _ yam (@zan _ _ _ _ _ _ _ yam (pv 0) zab (fun _ _=>rfl)) zab (fun _ _=>rfl)) (pv 1)) (by rfl) (by first|exact .inl rfl|exact .inr rfl|assumption)) (@yaa _ _ _ _ _ (@ybn _ _ _ _ _ _ (@zag _ _ _ _ _ _ _ _ yfn (@zan _ _ _ _ _ _ _ yam (@zan _ _ _ _ _ _ _ yam (pv 0) zab (fun _ _=>rfl)) zab (fun _ _=>rfl)) (pv 1)) (@zdK _ _ _ _ _ _ _ (@zan _ _ _ _ _ _ _ yam (pv 0) zab (fun _ _=>rfl)) zab zbY (by intro _;rfl)) (by rfl) (by rfl) (by rfl)) (@zad _ _ _ (@yal _ _ _ _ (pv 2))))) zat) (@yaa _ _ _ _ _ (@ybn _ _ _ _ _ _ (@zag _ _ _ _ _ _ _ _ zao (@zan _ _ _ _ _ _ _ yam (pv 0) zab (fun _ _=>rfl)) zab) (@zdK _ _ _ _ _ _ _ (pv 0) zab zbY (by intro _;rfl)) (by rfl) (by rfl) (by rfl)) (@yaa _ _ _ _ _ (@yag _ _ 3 _ _ _ _ yaP.nd rfl (Or.inl rfl) (@zan _ _ _ _ _ _ _ yam (pv 0) zab (fun _ _=>rfl)) (by rfl) (by first|exact .inl rfl|exact .inr rfl|assumption)) (@yaa _ _ _ _ _ (@yag _ _ 4 _ _ _ _ yaP.nd rfl (Or.inl rfl) (@zan _ _ _ _ _ _ _ yam (@zaZ _ _ _ _ (@zaa _ _ _ _ _ zab (@zaa _ _ _ _ _ zab (@zaa _ _ _ _ _ zab (@zaa _ _ _ _ _ zab (@zaa _ _ _ _ _ zab (@zaa _ _ _ _ _ zab (@zaa _ _ _ _ _ zab yab (by rfl)) (by rfl)) (by rfl)) (by rfl)) (by rfl)) (by rfl)) (by rfl))) (@zag _ _ _ _ _ _ _ _ zav (pv 3) zab) (fun _ _=>rfl)) (by rfl) (by first|exact .inl rfl|exact .inr rfl|assumption)) (@yaa _ _ _ _ _ (@yag _ _ 5 _ _ _ _ yaP.nd rfl (Or.inl rfl) (@zag _ _ _ _ _ _ _ _ zav (@zag _ _ _ _ _ _ _ _ zao (@zan _ _ _ _ _ _ _ yam (pv 0) zab (fun _ _=>rfl)) (@zag _ _ _ _ _ _ _ _ yaL zab (pv 3))) zab) (by rfl) (by first|exact .inl rfl|exact .inr rfl|assumption)) (@yaa _ _ _ _ _ (@yag _ _ 6 _ _ _ _ yaP.nd rfl (Or.inl rfl) (@zag _ _ _ _ _ _ _ _ yaL (@zag _ _ _ _ _ _ _ _ zav (@zag _ _ _ _ _ _ _ _ zdG (pv 5) zab) zab) (@zag _ _ _ _ _ _ _ _ zao (@zag _ _ _ _ _ _ _ _ yaL zab (pv 3)) zab)) (by rfl) (by first|exact .inl rfl|exact .inr rfl|assumption)) (@zad _ _ _ (@yal _ _ _ _ (@zag _ _ _ _ _ _ _ _ zav (@zag _ _ _ _ _ _ _ _ zdb (@zag _ _ _ _ _ _ _ _ zav (@zag _ _ _ _ _ _ _ _ zao (pv 6) (@zag _ _ _ _ _ _ _ _ zdb (@zan _ _ _ _ _ _ _ yam (pv 0) zab (fun _ _=>rfl)) zab)) (pv 4)) zab) (pv 1))))))))))),?_⟩
  refine zbl (fun σ H'=>σ=[some (.ref a),some (Vn n),none,none,none,none,none]∧Pu H' a g∧zar a g H H') ?_ ?_
  · rintro σ H' ⟨rfl,⟨ns,x,t,ha,hg⟩,sm⟩
    refine zbl (fun σ H1=>ns=[]∧σ=[some (.ref a),some (Vn n),none,none,none,none,none]∧H1 a=some (.lst [.ref g,Vn x,Vn t])∧H1 g=some (.lst [])∧zar a g H H1) ?_ ?_
    · rintro σ H1 ⟨rfl,rfl,ha,hg,sm⟩
      refine ⟨_,rfl,a,_,_,_,rfl,rfl,SqL.of ha,rfl,?_⟩
      refine ⟨_,_,rfl,rfl,?_⟩
      refine ⟨_,rfl,a,_,2,2,rfl,rfl,ha,rfl,?_⟩
      have h1:(upd H1 a (.lst [.ref g,Vn x,.int ((t:Int)+1)])) a=some (.lst [.ref g,Vn x,Vn (t+1)]):=yac
      have h2:(upd H1 a (.lst [.ref g,Vn x,.int ((t:Int)+1)])) g=some (.lst []):=by rw [yaf (Ne.symm nag)];exact hg
      have h3:zar a g H (upd H1 a (.lst [.ref g,Vn x,.int ((t:Int)+1)])):=fun b o n1 n2 e=>by rw [yaf n1];exact sm b o n1 n2 e
      change tSeq _ _ _ _ (upd H1 a (.lst [.ref g,Vn x,.int ((t:Int)+1)]))
      generalize upd H1 a (.lst [.ref g,Vn x,.int ((t:Int)+1)])=H2 at h1 h2 h3 ⊢
      refine ⟨_,rfl,a,_,_,_,rfl,rfl,SqL.of h1,rfl,?_⟩
      refine ⟨szl 7,fun l hl=>?_⟩
      have nla:a≠l:=yae h1 hl
      have nlg:g≠l:=yae h2 hl
      refine ⟨_,rfl,_,_,rfl,rfl,by show (0:Int)<7;decide,?_⟩
      obtain ⟨k,hk,ek⟩:=modn (x:=((t+1:Nat):Int)) (n:=7) (by omega)
      have hprime:∃pr:Nat,61<pr∧atI [V.int 2147483629,.int 2147483587,.int 2147483579,.int 2147483563,.int 2147483549,.int 2147483543,.int 2147483497] (k:Int)=some (Vn pr):=by
        have:k=0∨k=1∨k=2∨k=3∨k=4∨k=5∨k=6:=by omega
        rcases this with rfl|rfl|rfl|rfl|rfl|rfl|rfl
        · exact ⟨2147483629,by decide,rfl⟩
        · exact ⟨2147483587,by decide,rfl⟩
        · exact ⟨2147483579,by decide,rfl⟩
        · exact ⟨2147483563,by decide,rfl⟩
        · exact ⟨2147483549,by decide,rfl⟩
        · exact ⟨2147483543,by decide,rfl⟩
        · exact ⟨2147483497,by decide,rfl⟩
      obtain ⟨pr,hpr,epr⟩:=hprime
      have ek':((t+1:Nat):Int)%(7:Int)=(k:Int):=by have:=V.int.inj ek;exact this
      refine ⟨l,_,k,Vn pr,rfl,ek,SqL.of yac,epr,?_⟩
      have h1':(upd H2 l (.lst [V.int 2147483629,.int 2147483587,.int 2147483579,.int 2147483563,.int 2147483549,.int 2147483543,.int 2147483497])) a=some (.lst [.ref g,Vn x,Vn (t+1)]):=by rw [yaf nla];exact h1
      have h2':(upd H2 l (.lst [V.int 2147483629,.int 2147483587,.int 2147483579,.int 2147483563,.int 2147483549,.int 2147483543,.int 2147483497])) g=some (.lst []):=by rw [yaf nlg];exact h2
      have h3':zar a g H (upd H2 l (.lst [V.int 2147483629,.int 2147483587,.int 2147483579,.int 2147483563,.int 2147483549,.int 2147483543,.int 2147483497])):=h3.trans (Same.x (yad hl _))
      change tSeq _ _ _ _ (upd H2 l (.lst [V.int 2147483629,.int 2147483587,.int 2147483579,.int 2147483563,.int 2147483549,.int 2147483543,.int 2147483497]))
      generalize upd H2 l (.lst [V.int 2147483629,.int 2147483587,.int 2147483579,.int 2147483563,.int 2147483549,.int 2147483543,.int 2147483497])=H3 at h1' h2' h3' ⊢
      refine ⟨_,rfl,a,_,_,_,rfl,rfl,SqL.of h1',rfl,?_⟩
      refine ⟨_,rfl,_,_,rfl,rfl,.inl ⟨by decide,by decide⟩,?_⟩
      refine ⟨_,_,rfl,rfl,?_⟩
      refine ⟨_,_,rfl,rfl,by show (0:Int)<2147483647;decide,?_⟩
      obtain ⟨on,hon,eon⟩:=modn (x:=(x:Int)+65537*((t+1:Nat):Int)) (n:=2147483647) (by decide)
      dsimp only [zas]
      rw [show V.int (((x:Int)+65537*((t+1:Nat):Int))%2147483647)=Vn on from eon]
      refine ⟨_,rfl,_,_,rfl,rfl,⟨by decide,by decide,by show (on:Int).natAbs<2^64;omega⟩,?_⟩
      refine ⟨_,_,rfl,rfl,by show (0:Int)<2147483647;decide,?_⟩
      obtain ⟨o5,ho5,eo5⟩:=modn (x:=(on:Int)^(5:Int).toNat) (n:=2147483647) (by decide)
      refine ⟨_,rfl,_,_,rfl,rfl,.inl ⟨by decide,by decide⟩,?_⟩
      refine ⟨_,_,rfl,rfl,?_⟩
      have b5:(on:Int)^(5:Int).toNat%2147483647=(o5:Int):=V.int.inj eo5
      refine ⟨_,_,rfl,rfl,.inl ⟨by rw [b5];omega,by rw [b5];omega⟩,?_⟩
      refine ⟨_,rfl,_,rfl,a,_,_,_,rfl,rfl,SqL.of h1',rfl,?_⟩
      refine ⟨_,_,rfl,rfl,⟨by show (0:Int)<2147483647;decide,by show (2147483647:Int)<2^64;decide⟩,?_⟩
      refine ⟨_,_,rfl,rfl,?_⟩
      refine ⟨_,rfl,_,_,rfl,rfl,by show (0:Int)<(pr:Int);omega,?_⟩
      refine ⟨_,_,rfl,rfl,⟨by show (0:Int)<61;decide,by show (61:Int)<2^64;decide⟩,?_⟩
      refine ⟨_,rfl,_,_,rfl,rfl,by show (0:Int)<(n:Int);omega,?_⟩
      obtain ⟨r,hr',er⟩:=modn (x:=((on:Int)^(5:Int).toNat%2147483647*(2*((t+1:Nat):Int)+1)+(x:Int)/2147483647)%(pr:Int)/61) hn
      dsimp only
      rw [er]
      exact q r H3 hr' ⟨[],x,t+1,h1',h2'⟩ h3'
    · intro D' hrt _ _ hD
      refine ⟨_,rfl,a,_,_,_,rfl,rfl,SqL.of ha,rfl,szl 0,fun l hl=>?_⟩
      have nla:a≠l:=yae ha hl
      have nlg:g≠l:=yae hg hl
      have hg1:(upd H' l (.lst [])) g=some (.lst (ns.map Vn)):=by rw [yaf nlg];exact hg
      have ha1:(upd H' l (.lst [])) a=some (.lst [.ref g,Vn x,Vn t]):=by rw [yaf nla];exact ha
      have sm1:zar a g H (upd H' l (.lst [])):=sm.trans (Same.x (yad hl _))
      refine ⟨g,l,_,rfl,rfl,SqL.of hg1,SqL.of yac,_,rfl,?_⟩
      refine ite2 (fun c=>?_) (fun c=>?_)
      · cases ns with
        | nil=>exact absurd c (by simp)
        | cons d ns =>
          refine ⟨_,rfl,a,_,_,_,rfl,rfl,SqL.of ha1,rfl,?_⟩
          refine ⟨g,_,_,_,rfl,rfl,SqL.of hg1,zcI _ _,?_⟩
          refine ⟨_,rfl,_,_,rfl,rfl,by show (0:Int)<(n:Int);omega,?_⟩
          refine ⟨_,rfl,a,_,_,_,rfl,rfl,SqL.of ha1,rfl,?_⟩
          refine ⟨g,_,_,_,rfl,rfl,SqL.of hg1,zcI _ _,?_⟩
          refine ⟨_,rfl,_,_,rfl,rfl,⟨by show (0:Int)<(n:Int);omega,by show (n:Int)<2^1000;omega⟩,?_⟩
          refine ⟨_,rfl,a,_,_,_,rfl,rfl,SqL.of ha1,rfl,?_⟩
          refine ⟨g,_,0,0,rfl,rfl,hg1,ydA (by simp),?_⟩
          refine ⟨_,rfl,?_⟩
          rw [hrt]
          refine q (d%n) _ (Nat.mod_lt _ hn) ⟨(d/n)::ns,x,t,by rw [yaf nag];exact ha1,yac⟩ fun b o n1 n2 e=>by rw [yaf n2];exact sm1 b o n1 n2 e
      · cases ns with
        | nil=>exact hD _ _ ⟨rfl,rfl,ha1,hg1,sm1⟩
        | cons d ns=>exact absurd (by simp) c
  · intro D' _ _ _ hD
    refine zax (fun σ H'=>σ=[some (.ref a),some (Vn n),none,none,none,none,none]∧Pu H' a g∧zar a g H H') (fun _ H'=>zbX H' g) ⟨rfl,hP,zar.refl⟩ ?_
    rintro σ H' ⟨rfl,⟨ns,x,t,ha,hg⟩,sm⟩
    refine ⟨_,rfl,a,_,_,_,rfl,rfl,SqL.of ha,rfl,szl 0,fun l hl=>?_⟩
    have nla:a≠l:=yae ha hl
    have nlg:g≠l:=yae hg hl
    have hg1:(upd H' l (.lst [])) g=some (.lst (ns.map Vn)):=by rw [yaf nlg];exact hg
    have ha1:(upd H' l (.lst [])) a=some (.lst [.ref g,Vn x,Vn t]):=by rw [yaf nla];exact ha
    have sm1:zar a g H (upd H' l (.lst [])):=sm.trans (Same.x (yad hl _))
    refine ⟨g,l,_,rfl,rfl,SqL.of hg1,SqL.of yac,_,rfl,?_⟩
    refine ite2 (fun c=>?_) (fun c=>?_)
    · cases ns with
      | nil=>exact absurd c (by simp)
      | cons d ns =>
        refine ⟨_,rfl,a,_,_,_,rfl,rfl,SqL.of ha1,rfl,?_⟩
        refine ⟨g,_,_,_,rfl,rfl,SqL.of hg1,zcI _ _,?_⟩
        refine ⟨rfl,_,rfl,?_⟩
        refine ite2 (fun c=>?_) (fun c=>?_)
        · refine ⟨fun σ' H''=>σ'=[some (.ref a),some (Vn n),none,none,none,none,none]∧H''=upd (upd H' l (.lst [])) g (.lst (ns.map Vn)),?_,?_⟩
          · rintro σ' H'' ⟨rfl,rfl⟩
            refine ⟨_,?_,rfl,rfl,⟨ns,x,t,by rw [yaf nag];exact ha1,yac⟩,fun b o n1 n2 e=>by rw [yaf n2];exact sm1 b o n1 n2 e⟩
            rw [zbb hg,zbb (xs:=ns.map Vn) yac];simp
          · refine ⟨_,rfl,a,_,_,_,rfl,rfl,SqL.of ha1,rfl,.inl ⟨rfl,_,SqL.of hg1⟩,?_⟩
            exact ⟨g,_,0,0,Vn d,rfl,rfl,hg1,by decide,by decide,(ydw (ydA (by simp))).1,rfl,rfl,rfl⟩
        · exact hD _ _ ⟨rfl,⟨d::ns,x,t,ha1,hg1⟩,sm1⟩
    · refine ite2 (fun c2=>absurd c2 (by decide)) (fun _=>?_)
      exact hD _ _ ⟨rfl,⟨ns,x,t,ha1,hg1⟩,sm1⟩
end
end My
end
section
-- text: P3
set_option Elab.async false
set_option linter.all false
set_option maxRecDepth 100000
set_option maxHeartbeats 4000000
namespace My
open PySem L2 Dg
local macro_rules | `(tactic| walk_at "rd") => `(tactic| repeat (first | refine ⟨_, rfl, ?_⟩ | refine ⟨_, _, rfl, rfl, ?_⟩))
noncomputable def sumN:Nat→(Nat→Nat)→Nat
  | 0,_=>0
  | n+1,g=>sumN n g+g n
theorem zci:∀(n:Nat) (g:Nat→Nat),sumN (n+1) g=g 0+sumN n fun j=>g (j+1)
  | 0,g=>by simp [sumN]
  | n+1,g=>by rw [sumN,zci n g,sumN];omega
theorem yd2 {n:Nat} {g h:Nat→Nat} (e:∀j,j<n→g j=h j):sumN n g=sumN n h:=by
  induction n with
  | zero=>rfl
  | succ n ih=>rw [sumN,sumN,ih fun j hj=>e j (by omega),e n (by omega)]
noncomputable def shN (j:Nat) (y:Nat→Nat) (i:Nat):Nat:=if j≤i then y (i-j) else 0
theorem zdf:∀(k:Nat) (f y:Nat→Nat) (i:Nat),ycB k f y i=sumN k fun j=>f j*shN j y i
  | 0,_,_,_=>rfl
  | k+1,f,y,i=>by
    rw [zci]
    show f 0*y i+zaM (ycB k (fun j=>f (j+1)) y) i=f 0*shN 0 y i+_
    congr 1
    unfold zaM
    by_cases h:i=0
    · rw [if_pos h]
      subst h
      have:∀n,sumN n (fun j=>f (j+1)*shN (j+1) y 0)=0:=fun n=>by
        induction n with
        | zero=>rfl
        | succ n ih=>rw [sumN,ih];unfold shN;rw [if_neg (by omega)];simp
      exact (this k).symm
    · rw [if_neg h,zdf k]
      refine yd2 fun j _=>?_
      congr 1
      unfold shN
      by_cases h2:j+1≤i
      · rw [if_pos h2,if_pos (by omega)];congr 1;omega
      · rw [if_neg h2,if_neg (by omega)]
noncomputable def rowL (p n:Nat) (c:Nat→Nat):List V:=(List.range n).map fun i=>Vn (c i%p)
theorem ybx (p n:Nat) (c:Nat→Nat):(rowL p n c).length=n:=by simp [rowL]
theorem ycG {p n:Nat} (c:Nat→Nat) {i:Nat} (h:i<n):(rowL p n c)[i]?=some (Vn (c i%p)):=by
  unfold rowL;rw [List.getElem?_map,List.getElem?_range h];rfl
theorem ydt {p n:Nat} (c:Nat→Nat) {i:Nat} {j:Int} (h:i<n) (e:j=(i:Int)):atI (rowL p n c) j=some (Vn (c i%p)):=by
  subst e;exact za8 (ycG c h)
theorem zbh {p n:Nat} {c c':Nat→Nat} (h:∀i,i<n→c i%p=c' i%p):rowL p n c=rowL p n c':=by
  unfold rowL
  refine List.map_congr_left fun i hi=>?_
  rw [h i (List.mem_range.mp hi)]
theorem yeN {p n:Nat} (c:Nat→Nat) {s v:Nat} (h:s<n):(rowL p n c).set s (Vn (v%p))=rowL p n fun i=>if i=s then v else c i:=by
  refine List.ext_getElem? fun i=>?_
  by_cases hi:i<n
  · rw [ycG _ hi,List.getElem?_set]
    by_cases e:s=i
    · subst e;rw [if_pos rfl,if_pos (by rw [ybx];exact hi),if_pos rfl]
    · rw [if_neg e,ycG _ hi,if_neg (Ne.symm e)]
  · rw [List.getElem?_eq_none (by rw [List.length_set,ybx];omega),List.getElem?_eq_none (by rw [ybx];omega)]
theorem yek {p n:Nat} {c:Nat→Nat} {s v:Nat} (h:s<n) {c':Nat→Nat} (hc:∀i,i<n→c' i%p=(if i=s then c s%p+v else c i)%p):(rowL p n c).set s (Vn ((c s%p+v)%p))=rowL p n c' :=
  (yeN c h).trans (zbh fun i hi=>(hc i hi).symm)
theorem yez {n s:Nat} {j:Int} (h:s<n) (e:j=(s:Int)):ixN n j=some s:=by
  subst e
  unfold ixN
  rw [if_pos (by omega),if_pos (by omega)];simp
theorem zeW (p k:Nat) (hp:0<p):(List.replicate k [V.int 0]).flatten=rowL p k fun _=>0:=by
  induction k with
  | zero=>rfl
  | succ k ih =>
    rw [List.replicate_succ',List.flatten_append,ih]
    unfold rowL
    rw [List.range_succ,List.map_append]
    simp
section
variable {P:Program} {w:World} {K:PySem.W.Frag} {mg:Str→Option Value} {base:Heap} {f:Addr} {fd:FuncData}
noncomputable def zbR (K:PySem.W.Frag):Sp:=fun vs H Q _=>∃(a:Addr) (p m t x y:Nat),vs=[.ref a,.int x,.int y]∧Fld K H a p m t∧2≤p∧1≤m∧p^m≤64∧t<p^m∧x<p^m∧y<p^m∧
  ∀(r:Nat) H',Same H H'→r<p^m→(∀i,i<m→dg p i r=tn m (fun i=>dg p i t) m (fun i=>dg p i x) (fun i=>dg p i y) i%p)→Q (.int r) H'
theorem zcA {p m x i:Nat} (h:i<m):(digL p m x)[i]?=some (Vn (dg p i x)):=by
  unfold digL;rw [List.getElem?_map,List.getElem?_range h];rfl
theorem yeD {l:Addr} {H H':Hp} {o:HO} (h:zar l l H H'):zar l l H (upd H' l o):=fun b u n1 n2 e=>by rw [yaf n1];exact h b u n1 n2 e
theorem yev {l p:Addr} {H H':Hp} {o:HO} (h:zar l l H H') (hp:H' p=none):zar l l H (upd H' p o):=h.trans (Same.x (yad hp o))
theorem zcv {l:Addr} {H H':Hp} (h:zar l l H H') (hl:H l=none):Same H H':=fun b o e=>h b o (yae e hl) (yae e hl) e
theorem zaj:zak ["_law_field_here","_law_one","_law_other","_law_p","_law_m","_law_top","_law_row","_law_j","_law_digit","_law_k","_law_by","_law_place","_law_at"] ["_law_field_here","_law_one","_law_other"] (zac zaD):=⟨rfl,rfl,rfl,by decide +kernel,rfl,by decide +kernel,by decide +kernel⟩
theorem yd1 (B:Bl mg) (h__law_digits:Has P w K mg base 1 "_law_digits" ["_law_field_here","_law_thing"] (yda K)) (h__law_number:Has P w K mg base 1 "_law_number" ["_law_field_here","_law_digits_here"] (yc5 K)) (F:Fun K "_law_product" "_law_product" zaD f fd):FnOk P w K mg base CX0 2 f fd ["_law_field_here","_law_one","_law_other"] (zbR K):=by
  refine F.ok zaj (fun vs H Q E h=>?_) (fun cdv A outer s H vs Q E hr h=>?_)
  · obtain ⟨a,p,m,t,x,y,rfl,_⟩:=h;rfl
  obtain ⟨a,p,m,t,x,y,rfl,hF,hp,hm,hpm,ht,hx,hy,q⟩:=h
  have hp2:=p_le hp hm hpm
  have hm6:=m_le hp hpm
  refine ⟨_,(@yaa _ _ _ _ _ (@ybn _ _ _ _ _ _ (pv 0) (@zbo _ _ _ _ _ _ rfl (@yak _ _ _ _ _ (@zaf _ _ 3 _ zaj.nd rfl (Or.inl rfl) (by first|exact .inl rfl|exact .inr rfl|assumption)) (@yak _ _ _ _ _ (@zaf _ _ 4 _ zaj.nd rfl (Or.inl rfl) (by first|exact .inl rfl|exact .inr rfl|assumption)) (@yak _ _ _ _ _ (@zaf _ _ 5 _ zaj.nd rfl (Or.inl rfl) (by first|exact .inl rfl|exact .inr rfl|assumption)) za1 (by rfl)) (by rfl)) (by rfl)) (by rfl) (by rfl)) (by rfl) (by rfl) (by rfl)) (@yaa _ _ _ _ _ (@yag _ _ 6 _ _ _ _ zaj.nd rfl (Or.inl rfl) (@zag _ _ _ _ _ _ _ _ zfY (@zaZ _ _ _ _ (@zaa _ _ _ _ _ zab yab (by rfl))) (@zag _ _ _ _ _ _ _ _ zbA (@zag _ _ _ _ _ _ _ _ yaL zab (pv 4)) zab)) (by rfl) (by first|exact .inl rfl|exact .inr rfl|assumption)) (@yaa _ _ _ _ _ (@zaz _ _ _ _ _ _ _ _ PassesOwn.never rfl (@zcJ _ _ _ _ _ _ _ _ rfl (B "enumerate" (by decide)) (@zaa _ _ _ _ _ (@zae _ _ _ _ _ _ _ _ _ _ _ h__law_digits hr (by decide) rfl (@zaa _ _ _ _ _ (pv 0) (@zaa _ _ _ _ _ (pv 1) yab (by rfl)) (by rfl)) (by decide) (by rfl) (by rfl)) yab (by rfl)) (by rfl)) (@zbo _ _ _ _ _ _ rfl (@yak _ _ _ _ _ (@zaf _ _ 7 _ zaj.nd rfl (Or.inl rfl) (by first|exact .inl rfl|exact .inr rfl|assumption)) (@yak _ _ _ _ _ (@zaf _ _ 8 _ zaj.nd rfl (Or.inl rfl) (by first|exact .inl rfl|exact .inr rfl|assumption)) za1 (by rfl)) (by rfl)) (by rfl) (by rfl)) (@zad _ _ _ (@zaz _ _ _ _ _ _ _ _ PassesOwn.never rfl (@zcJ _ _ _ _ _ _ _ _ rfl (B "enumerate" (by decide)) (@zaa _ _ _ _ _ (@zae _ _ _ _ _ _ _ _ _ _ _ h__law_digits hr (by decide) rfl (@zaa _ _ _ _ _ (pv 0) (@zaa _ _ _ _ _ (pv 2) yab (by rfl)) (by rfl)) (by decide) (by rfl) (by rfl)) yab (by rfl)) (by rfl)) (@zbo _ _ _ _ _ _ rfl (@yak _ _ _ _ _ (@zaf _ _ 9 _ zaj.nd rfl (Or.inl rfl) (by first|exact .inl rfl|exact .inr rfl|assumption)) (@yak _ _ _ _ _ (@zaf _ _ 10 _ zaj.nd rfl (Or.inl rfl) (by first|exact .inl rfl|exact .inr rfl|assumption)) za1 (by rfl)) (by rfl)) (by rfl) (by rfl)) (@zad _ _ _ (@ybn _ _ _ _ _ _ (@zag _ _ _ _ _ _ _ _ zav (@zag _ _ _ _ _ _ _ _ zao (@zan _ _ _ _ _ _ _ yam (pv 6) (@zag _ _ _ _ _ _ _ _ zao (pv 7) (pv 9)) (fun _ _=>rfl)) (@zag _ _ _ _ _ _ _ _ yaL (pv 8) (pv 10))) (pv 3)) (@zdK _ _ _ _ _ _ _ (pv 6) (@zag _ _ _ _ _ _ _ _ zao (pv 7) (pv 9)) zbY (by intro _;rfl)) (by rfl) (by rfl) (by rfl))) (by intro _;rfl))) (by intro _;rfl)) (@yaa _ _ _ _ _ (@zaz _ _ _ _ _ _ _ _ PassesOwn.never rfl (@zb8 _ _ _ _ _ _ _ _ rfl (B "range" (by decide)) (@zaa _ _ _ _ _ (@zag _ _ _ _ _ _ _ _ zbA (@zag _ _ _ _ _ _ _ _ yaL zab (pv 4)) zab) (@zaa _ _ _ _ _ (@zag _ _ _ _ _ _ _ _ zbA (pv 4) zab) (@zaa _ _ _ _ _ (@zcc _ _ _ _ _ _ zbu zab) yab (by rfl)) (by rfl)) (by rfl)) (by rfl) (by rfl)) (@zaf _ _ 11 _ zaj.nd rfl (Or.inl rfl) (by first|exact .inl rfl|exact .inr rfl|assumption)) (@zad _ _ _ (@zaz _ _ _ _ _ _ _ _ PassesOwn.never rfl (@zcJ _ _ _ _ _ _ _ _ rfl (B "enumerate" (by decide)) (@zaa _ _ _ _ _ (@zae _ _ _ _ _ _ _ _ _ _ _ h__law_digits hr (by decide) rfl (@zaa _ _ _ _ _ (pv 0) (@zaa _ _ _ _ _ (pv 5) yab (by rfl)) (by rfl)) (by decide) (by rfl) (by rfl)) yab (by rfl)) (by rfl)) (@zbo _ _ _ _ _ _ rfl (@yak _ _ _ _ _ (@zaf _ _ 9 _ zaj.nd rfl (Or.inl rfl) (by first|exact .inl rfl|exact .inr rfl|assumption)) (@yak _ _ _ _ _ (@zaf _ _ 8 _ zaj.nd rfl (Or.inl rfl) (by first|exact .inl rfl|exact .inr rfl|assumption)) za1 (by rfl)) (by rfl)) (by rfl) (by rfl)) (@yaa _ _ _ _ _ (@yag _ _ 12 _ _ _ _ zaj.nd rfl (Or.inl rfl) (@zag _ _ _ _ _ _ _ _ zao (@zag _ _ _ _ _ _ _ _ zbA (pv 11) (pv 4)) (pv 9)) (by rfl) (by first|exact .inl rfl|exact .inr rfl|assumption)) (@zad _ _ _ (@ybn _ _ _ _ _ _ (@zag _ _ _ _ _ _ _ _ zav (@zag _ _ _ _ _ _ _ _ zao (@zan _ _ _ _ _ _ _ yam (pv 6) (pv 12) (fun _ _=>rfl)) (@zag _ _ _ _ _ _ _ _ yaL (@zan _ _ _ _ _ _ _ yam (pv 6) (pv 11) (fun _ _=>rfl)) (pv 8))) (pv 3)) (@zdK _ _ _ _ _ _ _ (pv 6) (pv 12) zbY (by intro _;rfl)) (by rfl) (by rfl) (by rfl)))) (by intro _;rfl))) (by intro _;rfl)) (@zad _ _ _ (@yal _ _ _ _ (@zae _ _ _ _ _ _ _ _ _ _ _ h__law_number hr (by decide) rfl (@zaa _ _ _ _ _ (pv 0) (@zaa _ _ _ _ _ (@ydO _ _ _ _ _ _ _ _ _ _ yeb (pv 6) zex (@yeH _ _ _ (pv 4))) yab (by rfl)) (by rfl)) (by decide) (by rfl) (by rfl)))))))),?_⟩
  refine ⟨_,rfl,a,_,rfl,hF,rfl,_,_,rfl,_,_,rfl,_,_,rfl,rfl,?_⟩
  refine ⟨szl 1,fun l0 hl0=>?_⟩
  refine ⟨_,rfl,_,_,rfl,rfl,.inl ⟨by decide,by decide⟩,?_⟩
  refine ⟨_,_,rfl,rfl,?_⟩
  have e21:(2*(m:Int)-1).toNat=2*m-1:=by omega
  refine ⟨l0,_,_,rfl,rfl,yac,by show -(2^63)≤2*(m:Int)-1;omega,by show 2*(m:Int)-1<2^63;omega,?_,fun l hl=>?_⟩
  · show 1*(2*(m:Int)-1).toNat≤sizeLine
    rw [e21];exact szl _
  dsimp only
  rw [e21,zeW p _ (by omega)]
  have hlH:H l=none:=(yad hl0 (.lst [.int 0])).free hl
  refine zbl (fun σ H'=>∃s7 s8 s9 s10 s11 s12,σ=[some (.ref a),some (Vn x),some (Vn y),some (Vn p),some (Vn m),some (Vn t),some (.ref l),s7,s8,s9,s10,s11,s12]∧zar l l H H'∧H' l=some (.lst (rowL p (2*m-1) (ycB m (fun i=>dg p i x) fun i=>dg p i y)))) ?_ ?_
  · rintro σ H' ⟨s7,s8,s9,s10,s11,s12,rfl,sx,hrow⟩
    refine zbl (fun σ H'=>∃s7 s8 s9 s10 s11 s12,σ=[some (.ref a),some (Vn x),some (Vn y),some (Vn p),some (Vn m),some (Vn t),some (.ref l),s7,s8,s9,s10,s11,s12]∧zar l l H H'∧∃c:Nat→Nat,H' l=some (.lst (rowL p (2*m-1) c))∧∀i,i<m→c i=tn m (fun i=>dg p i t) m (fun i=>dg p i x) (fun i=>dg p i y) i) ?_ ?_
    · rintro σ H' ⟨s7,s8,s9,s10,s11,s12,rfl,sx,c,hrow,hc⟩
      refine ⟨_,rfl,_,rfl,_,rfl,_,rfl,l,_,rfl,SqL.of hrow,fun l2 hl2=>?_⟩
      have sm2:Same H (upd H' l2 (.lst (cutV (rowL p (2*m-1) c) none (some (m:Int))))):=(zcv sx hlH).trans (yad hl2 _)
      refine ⟨a,l2,p,m,t,(List.range m).map fun i=>c i%p,rfl,Same.tup sm2 hF,hp,hp2,?_,fun H3 s3=>?_⟩
      · refine SqL.of ?_
        rw [yac]
        congr 2
        unfold cutV
        rw [HT.sIx_none,show HT.sIx (rowL p (2*m-1) c).length (rowL p (2*m-1) c).length (some (m:Int))=min m (rowL p (2*m-1) c).length from HT.sIx_nat _ _ m,ybx,List.drop_zero,show min m (2*m-1)-0=m by omega]
        unfold rowL
        rw [←List.map_take,List.take_range,List.map_map,show min m (2*m-1)=m by omega]
        rfl
      · have hds:∀d∈(List.range m).map (fun i=>c i%p),d<p:=fun d hd=>by
          obtain ⟨i,_,rfl⟩:=List.mem_map.mp hd
          exact Nat.mod_lt _ (by omega)
        have hg:∀i,((List.range m).map fun i=>c i%p).getD i 0=if i<m then c i%p else 0:=fun i=>by
          by_cases hi:i<m
          · rw [if_pos hi,List.getD,List.getElem?_map,List.getElem?_range hi];rfl
          · rw [if_neg hi,List.getD,List.getElem?_eq_none (by simpa using hi)];rfl
        refine q _ _ (sm2.trans s3) (ybQ hp fun i hi=>?_) fun i hi=>?_
        · rw [zeB hp _ hds,hg,if_neg (by omega)]
        · rw [zeB hp _ hds,hg,if_pos hi,hc i hi]
    · intro D' _ _ _ hD
      refine ⟨_,rfl,_,_,rfl,rfl,.inl ⟨by decide,by decide⟩,?_⟩
      refine ⟨_,_,rfl,rfl,?_⟩
      refine ⟨_,rfl,_,_,rfl,rfl,?_⟩
      refine ⟨_,rfl,?_⟩
      refine ⟨2*(m:Int)-2,(m:Int)-1,rfl,⟨by omega,by omega,by omega,by omega⟩,?_⟩
      refine yaM ybp (fun i σ H'=>∃s7 s8 s9 s10 s11 s12,σ=[some (.ref a),some (Vn x),some (Vn y),some (Vn p),some (Vn m),some (Vn t),some (.ref l),s7,s8,s9,s10,s11,s12]∧zar l l H H'∧∃c:Nat→Nat,H' l=some (.lst (rowL p (2*m-1) c))∧
        redF m (fun i=>dg p i t) (m-1-i) c=redF m (fun i=>dg p i t) (m-1) (ycB m (fun i=>dg p i x) fun i=>dg p i y)) ⟨s7,s8,s9,s10,s11,s12,rfl,sx,_,hrow,rfl⟩ (fun _ _ _ _ _=>trivial) ?_ ?_
      · rintro i v σ H' H'' hi ⟨s7,s8,s9,s10,s11,s12,rfl,sx,c,hrow,hred⟩ ⟨rfl,rfl⟩
        obtain ⟨j,hj⟩:∃j,m-1-i=j+1:=⟨m-1-i-1,by omega⟩
        have eq:V.int (2*(m:Int)-2-(i:Int))=Vn (m+j):=by show V.int _=V.int _;congr 1;omega
        have hq:m+j<2*m-1:=by omega
        dsimp only [zas]
        rw [eq]
        refine ⟨_,rfl,_,rfl,a,p,m,t,t,rfl,Same.tup (zcv sx hlH) hF,hp,hp2,by omega,fun b2 H2 hb2' s2 e2=>?_⟩
        have nb2:b2≠l:=fun e=>by rw [e,hrow] at hb2';cases hb2'
        refine ⟨false,b2,rfl,⟨_,SqL.of e2⟩,?_⟩
        refine yaM (ybH (K:=K) (b:=false) (l:=b2) (xs:=digL p m t)) (fun k σ H'=>∃s7 s8 s9 s10 s12,σ=[some (.ref a),some (Vn x),some (Vn y),some (Vn p),some (Vn m),some (Vn t),some (.ref l),s7,s8,s9,s10,some (Vn (m+j)),s12]∧zar l l H H'∧H' b2=some (.lst (digL p m t))∧
          H' l=some (.lst (rowL p (2*m-1) fun i=>c i+if j≤i∧i<j+k then c (m+j)*dg p (i-j) t else 0))) ⟨s7,s8,s9,s10,s12,rfl,sx.trans (Same.x s2),e2,?_⟩ ?_ ?_ ?_
        · rw [s2 _ _ hrow]
          congr 2
          refine zbh fun i _=>?_
          rw [if_neg (by omega)];rfl
        · rintro i σ H' _ ⟨s7,s8,s9,s10,s12,rfl,_,h,_⟩;exact SqL.of h
        · rintro k v σ H' H'' hk ⟨s7,s8,s9,s10,s12,rfl,sx,hc,hrow⟩ ⟨T,u,rfl,eu,hT,rfl⟩
          rw [ybh] at hk
          rw [zcA hk] at eu;cases eu
          refine ⟨T,_,rfl,SqT.of yac,rfl,_,_,rfl,_,_,rfl,rfl,?_⟩
          have sx3:zar l l H (upd H' T (.tup [.int k,Vn (dg p k t)])):=yev sx hT
          have hc3:(upd H' T (.tup [.int k,Vn (dg p k t)])) b2=some (.lst (digL p m t)):=by rw [yaf (yae hc hT)];exact hc
          have hr3:=(yaf (o:=.tup [.int k,Vn (dg p k t)]) (yae hrow hT)).trans hrow
          generalize upd H' T (.tup [.int k,Vn (dg p k t)])=G at sx3 hc3 hr3 ⊢
          have hjk:j+k<2*m-1:=by omega
          have hmp:∀z,z%p<p:=fun z=>Nat.mod_lt _ (by omega)
          refine ⟨_,rfl,_,rfl,_,_,rfl,rfl,?_⟩
          refine ⟨_,rfl,_,_,rfl,rfl,?_⟩
          have eat:V.int (((m+j:Nat):Int)-(m:Int)+((k:Nat):Int))=Vn (j+k):=by show V.int _=V.int _;congr 1;omega
          dsimp only [zas]
          rw [eat]
          refine ⟨_,rfl,_,rfl,l,_,_,_,rfl,rfl,SqL.of hr3,ydt _ hjk rfl,?_⟩
          refine ⟨_,rfl,_,rfl,l,_,_,_,rfl,rfl,SqL.of hr3,ydt _ hq rfl,?_⟩
          have hmq:=hmp (c (m+j)+if j≤m+j∧m+j<j+k then c (m+j)*dg p (m+j-j) t else 0)
          refine ⟨_,rfl,_,_,rfl,rfl,.inl ⟨by omega,by omega⟩,?_⟩
          refine ⟨_,_,rfl,rfl,?_⟩
          refine ⟨_,rfl,_,_,rfl,rfl,by show (0:Int)<(p:Int);omega,?_⟩
          refine ⟨_,rfl,_,rfl,?_⟩
          refine ⟨l,_,_,j+k,rfl,rfl,hr3,yez (by rw [ybx];exact hjk) rfl,?_⟩
          refine ⟨s7,_,_,s10,_,rfl,yeD sx3,by rw [yaf nb2];exact hc3,?_⟩
          rw [yac]
          congr 2
          refine yek (v:=(c (m+j)+if j≤m+j∧m+j<j+k then c (m+j)*dg p (m+j-j) t else 0)%p*dg p k t) hjk fun i hi=>?_
          by_cases e:i=j+k
          · subst e
            rw [if_pos rfl,if_pos (by omega),if_neg (by omega),if_neg (by omega),Nat.add_zero,Nat.add_zero,show j+k-j=k by omega,Nat.mod_add_mod]
            exact ybi rfl (zcL (Nat.mod_mod _ _).symm rfl)
          · rw [if_neg e]
            congr 2
            by_cases h2:j≤i∧i<j+k
            · rw [if_pos h2,if_pos (by omega)]
            · rw [if_neg h2,if_neg (by omega)]
        · rintro σ H' ⟨s7,s8,s9,s10,s12,rfl,sx,hc,hrow⟩
          refine ⟨s7,s8,s9,s10,_,s12,rfl,sx,_,hrow,?_⟩
          rw [←hred,hj,show m-1-(i+1)=j by omega]
          show _=redF m (fun i=>dg p i t) j (ybl m (fun i=>dg p i t) (m+j) c)
          congr 1
          funext z
          unfold ybl
          rw [ybh,show m+j-m=j by omega]
          congr 1
          by_cases h2:j≤z∧z<j+m
          · rw [if_pos h2,if_pos (by omega)]
          · rw [if_neg h2,if_neg (by omega)]
      · rintro σ H' ⟨s7,s8,s9,s10,s11,s12,rfl,sx,c,hrow,hred⟩
        refine hD _ _ ⟨s7,s8,s9,s10,s11,s12,rfl,sx,c,hrow,fun i hi=>?_⟩
        rw [show m-1-(2*(m:Int)-2-((m:Int)-1)).toNat=0 by omega] at hred
        have e:=congrFun hred i
        have e2:=zdB (t:=fun i=>dg p i t) hm (m-1) (fun i=>dg p i x) (fun i=>dg p i y) (fun z hz=>zaI hp hy hz) i hi
        rw [show m-1+1=m by omega] at e2
        exact e.trans e2
  · intro D' _ _ _ hD
    refine ⟨_,rfl,_,rfl,a,p,m,t,x,rfl,Same.tup ((yad hl0 _).trans (yad hl _)) hF,hp,hp2,by omega,fun b1 H1 hb1 s1 e1=>?_⟩
    have hl1:H1 l=some (.lst (rowL p (2*m-1) fun _=>0)):=s1 _ _ yac
    have nb1:b1≠l:=fun e=>by rw [e,yac] at hb1;cases hb1
    have sx1:zar l l H H1:=Same.x (((yad hl0 _).trans (yad hl _)).trans s1)
    refine ⟨false,b1,rfl,⟨_,SqL.of e1⟩,?_⟩
    refine yaM (ybH (K:=K) (b:=false) (l:=b1) (xs:=digL p m x)) (fun j σ H'=>∃s7 s8 s9 s10 s11 s12,σ=[some (.ref a),some (Vn x),some (Vn y),some (Vn p),some (Vn m),some (Vn t),some (.ref l),s7,s8,s9,s10,s11,s12]∧zar l l H H'∧H' b1=some (.lst (digL p m x))∧
      H' l=some (.lst (rowL p (2*m-1) fun i=>sumN j fun j'=>dg p j' x*shN j' (fun i=>dg p i y) i))) ⟨none,none,none,none,none,none,rfl,sx1,e1,hl1⟩ ?_ ?_ ?_
    · rintro i σ H' _ ⟨s7,s8,s9,s10,s11,s12,rfl,_,h,_⟩;exact SqL.of h
    · rintro j v σ H' H'' hj ⟨s7,s8,s9,s10,s11,s12,rfl,sx,hb,hrow⟩ ⟨T,u,rfl,eu,hT,rfl⟩
      rw [ybh] at hj
      rw [zcA hj] at eu;cases eu
      refine ⟨T,_,rfl,SqT.of yac,rfl,_,_,rfl,_,_,rfl,rfl,?_⟩
      have sx2:zar l l H (upd H' T (.tup [.int j,Vn (dg p j x)])):=yev sx hT
      have hb2:(upd H' T (.tup [.int j,Vn (dg p j x)])) b1=some (.lst (digL p m x)):=by rw [yaf (yae hb hT)];exact hb
      have hr2:(upd H' T (.tup [.int j,Vn (dg p j x)])) l=some (.lst (rowL p (2*m-1) fun i=>sumN j fun j'=>dg p j' x*shN j' (fun i=>dg p i y) i)):=by rw [yaf (yae hrow hT)];exact hrow
      generalize upd H' T (.tup [.int j,Vn (dg p j x)])=G at sx2 hb2 hr2 ⊢
      refine ⟨_,rfl,_,rfl,a,p,m,t,y,rfl,Same.tup (zcv sx2 hlH) hF,hp,hp2,by omega,fun b2 H2 hb2' s2 e2=>?_⟩
      have nb2:b2≠l:=fun e=>by rw [e,hr2] at hb2';cases hb2'
      refine ⟨false,b2,rfl,⟨_,SqL.of e2⟩,?_⟩
      refine yaM (ybH (K:=K) (b:=false) (l:=b2) (xs:=digL p m y)) (fun k σ H'=>∃s9 s10 s11 s12,σ=[some (.ref a),some (Vn x),some (Vn y),some (Vn p),some (Vn m),some (Vn t),some (.ref l),some (Vn j),some (Vn (dg p j x)),s9,s10,s11,s12]∧zar l l H H'∧H' b1=some (.lst (digL p m x))∧H' b2=some (.lst (digL p m y))∧
        H' l=some (.lst (rowL p (2*m-1) fun i=>sumN j (fun j'=>dg p j' x*shN j' (fun i=>dg p i y) i)+if j≤i∧i<j+k then dg p j x*dg p (i-j) y else 0))) ⟨s9,s10,s11,s12,rfl,sx2.trans (Same.x s2),s2 _ _ hb2,e2,?_⟩ ?_ ?_ ?_
      · rw [s2 _ _ hr2]
        congr 2
        refine zbh fun i _=>?_
        rw [if_neg (by omega)];rfl
      · rintro i σ H' _ ⟨s9,s10,s11,s12,rfl,_,_,h,_⟩;exact SqL.of h
      · rintro k v σ H' H'' hk ⟨s9,s10,s11,s12,rfl,sx,hb,hc,hrow⟩ ⟨T,u,rfl,eu,hT,rfl⟩
        rw [ybh] at hk
        rw [zcA hk] at eu;cases eu
        refine ⟨T,_,rfl,SqT.of yac,rfl,_,_,rfl,_,_,rfl,rfl,?_⟩
        have sx3:zar l l H (upd H' T (.tup [.int k,Vn (dg p k y)])):=yev sx hT
        have hb3:(upd H' T (.tup [.int k,Vn (dg p k y)])) b1=some (.lst (digL p m x)):=by rw [yaf (yae hb hT)];exact hb
        have hc3:(upd H' T (.tup [.int k,Vn (dg p k y)])) b2=some (.lst (digL p m y)):=by rw [yaf (yae hc hT)];exact hc
        have hr3:=(yaf (o:=.tup [.int k,Vn (dg p k y)]) (yae hrow hT)).trans hrow
        generalize upd H' T (.tup [.int k,Vn (dg p k y)])=G at sx3 hb3 hc3 hr3 ⊢
        have d1:=yfT hp j x
        have hjk:j+k<2*m-1:=by omega
        refine ⟨_,rfl,_,rfl,_,rfl,_,_,rfl,rfl,?_⟩
        refine ⟨l,_,_,_,rfl,rfl,SqL.of hr3,ydt _ hjk rfl,?_⟩
        refine ⟨_,rfl,_,rfl,_,_,rfl,rfl,.inl ⟨by show -(2^64:Int)<((dg p j x:Nat):Int);omega,by show ((dg p j x:Nat):Int)<2^64;omega⟩,?_⟩
        refine ⟨_,_,rfl,rfl,?_⟩
        refine ⟨_,rfl,_,_,rfl,rfl,by show (0:Int)<(p:Int);omega,?_⟩
        refine ⟨_,rfl,_,rfl,_,rfl,_,_,rfl,rfl,?_⟩
        refine ⟨l,_,_,j+k,rfl,rfl,hr3,yez (by rw [ybx];exact hjk) rfl,?_⟩
        refine ⟨_,_,s11,s12,rfl,yeD sx3,by rw [yaf nb1];exact hb3,by rw [yaf nb2];exact hc3,?_⟩
        rw [yac]
        congr 2
        refine yek (v:=dg p j x*dg p k y) hjk fun i hi=>?_
        by_cases e:i=j+k
        · subst e
          rw [if_pos rfl,if_pos (by omega),if_neg (by omega),Nat.add_zero,show j+k-j=k by omega,Nat.mod_add_mod]
        · rw [if_neg e]
          congr 2
          by_cases h2:j≤i∧i<j+k
          · rw [if_pos h2,if_pos (by omega)]
          · rw [if_neg h2,if_neg (by omega)]
      · rintro σ H' ⟨s9,s10,s11,s12,rfl,sx,hb,hc,hrow⟩
        refine ⟨_,_,s9,s10,s11,s12,rfl,sx,hb,?_⟩
        rw [hrow,ybh]
        congr 2
        refine zbh fun i _=>?_
        rw [sumN]
        congr 2
        unfold shN
        by_cases h1:j≤i
        · rw [if_pos h1]
          by_cases h2:i<j+m
          · rw [if_pos ⟨h1,h2⟩]
          · rw [if_neg (by omega)];show 0=dg p j x*dg p (i-j) y;rw [zaI hp hy (by omega),Nat.mul_zero]
        · rw [if_neg h1,if_neg (by omega),Nat.mul_zero]
    · rintro σ H' ⟨s7,s8,s9,s10,s11,s12,rfl,sx,hb,hrow⟩
      refine hD _ _ ⟨s7,s8,s9,s10,s11,s12,rfl,sx,?_⟩
      rw [hrow,ybh]
      congr 2
      exact zbh fun i _=>by rw [zdf]
end
end My
end
section
-- text: P4
set_option Elab.async false
set_option linter.all false
set_option maxRecDepth 100000
set_option maxHeartbeats 4000000
namespace My
open PySem L2 Dg
section
variable {P:Program} {w:World} {K:PySem.W.Frag} {mg:Str→Option Value} {base:Heap} {f:Addr} {fd:FuncData}
theorem zgk {b:Bool} (h:¬ (!b)=true):b=true:=by cases b <;> simp_all
noncomputable def zef (K:PySem.W.Frag):Sp:=fun vs H Q _=>∃(a:Addr) (p m t:Nat),vs=[.ref a]∧Fld K H a p m t∧2≤p∧1≤m∧p^m≤64∧t<p^m∧
  ∀(b:Bool) H',Same H H'→(b=true→∀x y,0<x→x<p^m→x<p^(m/2+1)→0<y→y<p^m→mul p m t x y≠0)→Q (.bl b) H'
theorem zay:zak ["_law_field_here","_law_p","_law_m","_law_top","_law_many","_law_one"] ["_law_field_here"] (zac zaw):=⟨rfl,rfl,rfl,by decide +kernel,rfl,by decide +kernel,by decide +kernel⟩
theorem zfv (B:Bl mg) (h__law_raised:Has P w K mg base 1 "_law_raised" ["_law_one","_law_many"] zau) (h__law_product:Has P w K mg base 2 "_law_product" ["_law_field_here","_law_one","_law_other"] (zbR K)) (F:Fun K "_law_is_good" "_law_is_good" zaw f fd):FnOk P w K mg base CX0 3 f fd ["_law_field_here"] (zef K):=by
  refine F.ok zay (fun vs H Q E h=>?_) (fun cdv A outer s H vs Q E hr h=>?_)
  · obtain ⟨a,p,m,t,rfl,_⟩:=h;rfl
  obtain ⟨a,p,m,t,rfl,hF,hp,hm,hpm,ht,q⟩:=h
  have hp2:=p_le hp hm hpm
  have hm6:=m_le hp hpm
  have hpos:0<p^m:=Nat.pow_pos (by omega)
  refine ⟨_,(@yaa _ _ _ _ _ (@ybn _ _ _ _ _ _ (pv 0) (@zbo _ _ _ _ _ _ rfl (@yak _ _ _ _ _ (@zaf _ _ 1 _ zay.nd rfl (Or.inl rfl) (by first|exact .inl rfl|exact .inr rfl|assumption)) (@yak _ _ _ _ _ (@zaf _ _ 2 _ zay.nd rfl (Or.inl rfl) (by first|exact .inl rfl|exact .inr rfl|assumption)) (@yak _ _ _ _ _ (@zaf _ _ 3 _ zay.nd rfl (Or.inl rfl) (by first|exact .inl rfl|exact .inr rfl|assumption)) za1 (by rfl)) (by rfl)) (by rfl)) (by rfl) (by rfl)) (by rfl) (by rfl) (by rfl)) (@yaa _ _ _ _ _ (@yag _ _ 4 _ _ _ _ zay.nd rfl (Or.inl rfl) (@zae _ _ _ _ _ _ _ _ _ _ _ h__law_raised hr (by decide) rfl (@zaa _ _ _ _ _ (pv 1) (@zaa _ _ _ _ _ (pv 2) yab (by rfl)) (by rfl)) (by decide) (by rfl) (by rfl)) (by rfl) (by first|exact .inl rfl|exact .inr rfl|assumption)) (@yaa _ _ _ _ _ (@zaz _ _ _ _ _ _ _ _ PassesOwn.never rfl (@ya7 _ _ _ _ _ _ _ rfl (B "range" (by decide)) (@zaa _ _ _ _ _ zab (@zaa _ _ _ _ _ (@yan _ _ _ _ _ _ _ _ _ (zeC rfl) rfl (B "min" (by decide)) zdl (@zaa _ _ _ _ _ (pv 4) (@zaa _ _ _ _ _ (@zae _ _ _ _ _ _ _ _ _ _ _ h__law_raised hr (by decide) rfl (@zaa _ _ _ _ _ (pv 1) (@zaa _ _ _ _ _ (@zag _ _ _ _ _ _ _ _ zao (@zag _ _ _ _ _ _ _ _ zdb (pv 2) zab) zab) yab (by rfl)) (by rfl)) (by decide) (by rfl) (by rfl)) yab (by rfl)) (by rfl)) (by decide) (by decide) (by rfl) (by rfl)) yab (by rfl)) (by rfl)) (by rfl) (by rfl)) (@zaf _ _ 5 _ zay.nd rfl (Or.inr rfl) (by first|exact .inl rfl|exact .inr rfl|assumption)) (@zad _ _ _ (@ya0 _ _ _ _ _ _ _ _ (@zc7 _ _ _ _ (@ycZ _ _ _ (@yan _ _ _ _ _ _ _ _ _ (zcD rfl) rfl (B "all" (by decide)) PyProof.Rows.boot_all (@zaa _ _ _ _ _ (@zbm _ _ _ _ _ _ _ ["_law_other"] ["_law_field_here","_law_one"] [0,5] _ _ _ _ (id (α:=CSc ["_law_field_here","_law_p","_law_m","_law_top","_law_many","_law_one"] (zac zaw) ["_law_other"] ["_law_field_here","_law_one"] [0,5] _) ⟨by rfl,by decide +kernel,by decide +kernel,by decide +kernel,by decide +kernel,by rfl,by decide +kernel⟩) rfl (@ya7 _ _ _ _ _ _ _ rfl (B "range" (by decide)) (@zaa _ _ _ _ _ zab (@zaa _ _ _ _ _ (pv 4) yab (by rfl)) (by rfl)) (by rfl) (by rfl)) (fun cl C fp s H=>(@zaf _ _ 0 _ (by show List.Nodup (["_law_other","_law_field_here","_law_one"]:List Str);decide +kernel) rfl (Or.inl rfl) (by first|exact .inl rfl|exact .inr rfl|assumption))) (fun _ _ _ _ _=>yba) (fun _ _ _ _ _=>(@zbP _ _ _ _ _ _ _ _ zby (@zae _ _ _ _ _ _ _ _ _ _ _ h__law_product hr (by decide) rfl (@zaa _ _ _ _ _ (pv 1) (@zaa _ _ _ _ _ (pv 2) (@zaa _ _ _ _ _ (pv 0) yab (by rfl)) (by rfl)) (by rfl)) (by decide) (by rfl) (by rfl)) zab (yai _))) (by intro _;rfl)) yab (by rfl)) (by decide) (by decide) (by rfl) (by rfl)) (by intro _;rfl))) (@zad _ _ _ (@yal _ _ _ _ zcM)) zat)) (by intro _;rfl)) (@zad _ _ _ (@yal _ _ _ _ zcM))))),?_⟩
  refine ⟨_,rfl,a,_,rfl,hF,rfl,_,_,rfl,_,_,rfl,_,_,rfl,rfl,?_⟩
  refine ⟨_,rfl,_,rfl,p,m,rfl,hp2,by omega,?_⟩
  refine ⟨_,rfl,_,rfl,_,rfl,_,_,rfl,rfl,⟨by show (0:Int)<2;decide,by show (2:Int)<2^64;decide⟩,?_⟩
  refine ⟨_,_,rfl,rfl,?_⟩
  refine ⟨p,m/2+1,rfl,hp2,by omega,?_⟩
  refine ⟨_,_,rfl,?_⟩
  generalize hj:(if (((p^(m/2+1):Nat):Int)<((p^m:Nat):Int)) then ((p^(m/2+1):Nat):Int) else ((p^m:Nat):Int))=j
  have hj2:0≤j∧j≤((p^m:Nat):Int)∧∀x:Nat,x<p^m→x<p^(m/2+1)→(x:Int)<j:=by
    rw [←hj];split
    · exact ⟨by omega,by omega,fun x h1 h2=>by omega⟩
    · exact ⟨by omega,by omega,fun x h1 h2=>by omega⟩
  refine ⟨1,j,rfl,⟨by omega,by omega,by omega,by omega⟩,?_⟩
  refine zaY (fun i σ H'=>Same H H'∧(∀x y,0<x→x<1+i→0<y→y<p^m→mul p m t x y≠0)∧∃s,σ=[some (.ref a),some (Vn p),some (Vn m),some (Vn t),some (Vn (p^m)),s]) ⟨Same.refl _,fun x y h1 h2=>by omega,none,rfl⟩ ?_ ?_
  · rintro i σ H' hi ⟨sm,hno,s,rfl⟩
    refine ⟨_,rfl,1,((p^m:Nat):Int),rfl,⟨by omega,by omega,by omega,by omega⟩,?_⟩
    refine zaE yau (fun k acc H1=>Same H H1∧acc=((List.range k).map fun j=>decide (0<mul p m t (1+i) (1+j))).map V.bl) ⟨sm,rfl⟩ (fun _ _ _ _ _=>trivial) ?_ ?_ ?_
    · rintro k acc H1 hk ⟨_,rfl⟩
      rw [List.length_map,List.length_map,List.length_range];exact Nat.lt_of_le_of_lt (show k≤1000 by omega) (zap (Nat.le_refl _))
    · rintro k acc x H1 H2 hk ⟨sm1,rfl⟩ ⟨rfl,rfl⟩
      refine ⟨_,rfl,_,rfl,_,rfl,a,p,m,t,1+i,1+k,rfl,Same.tup sm1 hF,hp,hm,hpm,ht,by omega,by omega,fun r H3 s3 br hr=>?_⟩
      have e:=yeF hp hm br hr
      subst e
      refine ⟨_,_,rfl,rfl,sm1.trans s3,?_⟩
      rw [List.range_succ,List.map_append,List.map_append]
      refine congrArg (_++[V.bl ·]) ?_
      show decide ((0:Int)<((mul p m t (1+i) (1+k):Nat):Int))=decide (0<mul p m t (1+i) (1+k))
      exact decide_eq_decide.mpr (by omega)
    · rintro acc H1 ⟨sm1,rfl⟩ D hD
      refine ⟨D,_,rfl,SqL.of yac,_,rfl,?_⟩
      refine ite2 (fun c=>?_) (fun c=>?_)
      · exact q _ _ (sm1.trans (yad hD _)) (fun h=>by cases h)
      · refine ⟨sm1.trans (yad hD _),fun x y h1 h2 h3 h4=>?_,_,rfl⟩
        by_cases hx:x<1+i
        · exact hno x y h1 hx h3 h4
        · have c2:((List.range (((p^m:Nat):Int)-1).toNat).map fun j=>decide (0<mul p m t (1+i) (1+j))).all id=true:=zgk c
          rw [List.all_eq_true] at c2
          have c3:=c2 (decide (0<mul p m t (1+i) (1+(y-1)))) (List.mem_map.mpr ⟨y-1,List.mem_range.mpr (by omega),rfl⟩)
          have c4:0<mul p m t (1+i) (1+(y-1)):=of_decide_eq_true c3
          rw [show 1+i=x by omega,show 1+(y-1)=y by omega] at c4
          omega
  · rintro σ H' ⟨sm,hno,s,rfl⟩
    refine q _ _ sm fun _ x y h1 h2 h3 h4 h5=>hno x y h1 ?_ h4 h5
    have:=hj2.2.2 x h2 h3
    omega
end
end My
end
section
-- text: P5
set_option Elab.async false
set_option linter.all false
set_option maxRecDepth 100000
set_option maxHeartbeats 4000000
namespace My
open PySem L2 Dg
theorem ye7 {p m:Nat} (h:(p,m)∈Dg.menu):(p,1)∈Dg.menu:=(by decide +kernel:∀c∈Dg.menu,(c.1,1)∈Dg.menu) (p,m) h
noncomputable def yd7:List (Int×Int)→TA
  | []=>tNil
  | (p,m)::r=>yce (tTup (yce (tC (.int p)) (yce (tC (.int m)) tNil))) (yd7 r)
@[irreducible] noncomputable def ycx (ps:List (Int×Int)):TA:=yd7 ps
theorem zcP (ps:List (Int×Int)):ycx ps=yd7 ps:=by unfold ycx;rfl
theorem zcY:ycx []=tNil:=by rw [zcP];rfl
theorem zcj {p m:Int} {r:List (Int×Int)}:ycx ((p,m)::r)=yce (tTup (yce (tC (.int p)) (yce (tC (.int m)) tNil))) (ycx r):=by rw [zcP,zcP];rfl
section
variable {X:Cx}
theorem zb7:PA X [] (ycx []):=by rw [zcY];exact yab
theorem zal {p m:Int} {k1 k2 c:Nat} {p1 p2 p3:Pos} {es:List Expr} {r:List (Int×Int)} (h:PA X es (ycx r)):PA X (.Tuple [.Constant (.int p) k1 p1,.Constant (.int m) k2 p2] c p3::es) (ycx ((p,m)::r)):=by
  rw [zcj]
  exact zaa (ybm (zaa zab (zaa zab yab))) h
end
noncomputable def zcl (H:Hp) (t:Addr):Prop:=∃p m:Nat,H t=some (.tup [Vn p,Vn m])∧(p,m)∈Dg.menu
theorem zcl.same {H H':Hp} {t:Addr} (h:zcl H t) (s:∀o,H t=some o→H' t=some o):zcl H' t:=by
  obtain ⟨p,m,e,q⟩:=h;exact ⟨p,m,s _ e,q⟩
theorem zcd:∀(ps:List (Int×Int)) (σ:St) (H:Hp) (Q:List V→Hp→Prop),(∀x∈ps,∃p m:Nat,x=((p:Int),(m:Int))∧(p,m)∈Dg.menu)→
    (∀(ts:List Addr) H',Same H H'→ts.length=ps.length→(∀t∈ts,H t=none∧zcl H' t)→Q (ts.map V.ref) H')→ycx ps σ H Q
  | [],σ,H,Q,_,q=>by rw [zcY];exact q [] H (Same.refl _) rfl (fun t ht=>nomatch ht)
  | (p,m)::r,σ,H,Q,hp,q=>by
    rw [zcj]
    refine ⟨szl 2,fun t ht=>?_⟩
    obtain ⟨p',m',e,b⟩:=hp (p,m) List.mem_cons_self
    cases e
    refine zcd r σ _ _ (fun x hx=>hp x (List.mem_cons_of_mem _ hx)) fun ts H' s hl hts=>?_
    refine q (t::ts) H' ((yad ht _).trans s) (by simp [hl]) fun t' ht'=>?_
    rcases List.mem_cons.mp ht' with e|e
    · subst e;exact ⟨ht,p',m',s _ _ yac,b⟩
    · exact ⟨(yad ht _).free (hts t' e).1,(hts t' e).2⟩
structure Menu (a g:Addr) (H:Hp) (l:Addr) (n:Nat):Prop where
  ex:∃ts:List Addr,H l=some (.lst (ts.map V.ref))∧ts.length=n∧∀t∈ts,t≠a∧t≠g∧zcl H t
  na:l≠a
  ng:l≠g
theorem Menu.x {a g l:Addr} {n:Nat} {H H':Hp} (h:Menu a g H l n) (s:zar a g H H'):Menu a g H' l n:=by
  obtain ⟨⟨ts,h1,h2,h3⟩,na,ng⟩:=h
  exact ⟨⟨ts,s _ _ na ng h1,h2,fun t ht=>⟨(h3 t ht).1,(h3 t ht).2.1,(h3 t ht).2.2.same fun o e=>s _ _ (h3 t ht).1 (h3 t ht).2.1 e⟩⟩,na,ng⟩
section
variable {P:Program} {w:World} {K:PySem.W.Frag} {mg:Str→Option Value} {base:Heap} {f:Addr} {fd:FuncData}
noncomputable def zbI:List Nat:=[17,19,23,29,31,37,41,43,47,53,59]
noncomputable def ydL:Sp:=fun vs H Q _=>∃(a g:Addr),vs=[.ref a]∧Pu H a g∧∀(r:Addr) (p m t:Nat) H',r≠a→r≠g→H r=none→H' r=some (.tup [Vn p,Vn m,Vn t])→Good p m t→Pu H' a g→zar a g H H'→Q (.ref r) H'
theorem yao:zak ["_law_purse_here","_law_some","_law_size","_law_p","_law_m","_law_many","_law_start","_law_turn","_law_field_here"] ["_law_purse_here"] (zac yaF):=⟨rfl,rfl,rfl,by decide +kernel,rfl,by decide +kernel,by decide +kernel⟩
theorem Pu.lt {H:Hp} {a g l:Addr} (h:Pu H a g) (hl:H l=none):l≠a∧l≠g:=by
  obtain ⟨ns,s,t,h1,h2⟩:=h
  exact ⟨Ne.symm (yae h1 hl),Ne.symm (yae h2 hl)⟩
theorem ze0 (B:Bl mg) (h__law_pick:Has P w K mg base 1 "_law_pick" ["_law_purse_here","_law_many"] ycA) (h__law_raised:Has P w K mg base 1 "_law_raised" ["_law_one","_law_many"] zau) (h__law_is_good:Has P w K mg base 3 "_law_is_good" ["_law_field_here"] (zef K)) (F:Fun K "_law_field" "_law_field" yaF f fd):FnOk P w K mg base CX0 4 f fd ["_law_purse_here"] ydL:=by
  refine F.ok yao (fun vs H Q E h=>?_) (fun cdv A outer s H vs Q E hr h=>?_)
  · obtain ⟨a,g,rfl,_⟩:=h;rfl
  obtain ⟨a,g,rfl,hP,q⟩:=h
  refine ⟨_,(@yaa _ _ _ _ _ (@yag _ _ 1 _ _ _ _ yao.nd rfl (Or.inl rfl) (@zaZ _ _ _ _ (@zal _ _ _ _ _ _ _ _ _ _ _ (@zal _ _ _ _ _ _ _ _ _ _ _ (@zal _ _ _ _ _ _ _ _ _ _ _ (@zal _ _ _ _ _ _ _ _ _ _ _ (@zal _ _ _ _ _ _ _ _ _ _ _ (@zal _ _ _ _ _ _ _ _ _ _ _ (@zal _ _ _ _ _ _ _ _ _ _ _ (@zal _ _ _ _ _ _ _ _ _ _ _ (@zal _ _ _ _ _ _ _ _ _ _ _ (@zal _ _ _ _ _ _ _ _ _ _ _ (@zal _ _ _ _ _ _ _ _ _ _ _ (@zal _ _ _ _ _ _ _ _ _ _ _ zb7))))))))))))) (by rfl) (by first|exact .inl rfl|exact .inr rfl|assumption)) (@yaa _ _ _ _ _ (@yag _ _ 2 _ _ _ _ yao.nd rfl (Or.inl rfl) (@zae _ _ _ _ _ _ _ _ _ _ _ h__law_pick hr (by decide) rfl (@zaa _ _ _ _ _ (pv 0) (@zaa _ _ _ _ _ zab yab (by rfl)) (by rfl)) (by decide) (by rfl) (by rfl)) (by rfl) (by first|exact .inl rfl|exact .inr rfl|assumption)) (@yaa _ _ _ _ _ (@ya0 _ _ _ _ _ _ _ _ (@zah _ _ _ _ _ _ _ _ yby (pv 2) zab (yai _)) (@zad _ _ _ (@yag _ _ 1 _ _ _ _ yao.nd rfl (Or.inl rfl) (@zaZ _ _ _ _ (@zal _ _ _ _ _ _ _ _ _ _ _ (@zal _ _ _ _ _ _ _ _ _ _ _ (@zal _ _ _ _ _ _ _ _ _ _ _ (@zal _ _ _ _ _ _ _ _ _ _ _ zb7))))) (by rfl) (by first|exact .inl rfl|exact .inr rfl|assumption))) zat) (@yaa _ _ _ _ _ (@ya0 _ _ _ _ _ _ _ _ (@zah _ _ _ _ _ _ _ _ yby (pv 2) zab (yai _)) (@zad _ _ _ (@ybB _ 1 _ _ _ _ _ _ _ _ _ ["_law_p"] [] [] _ _ _ _ yao.nd rfl (Or.inl rfl) (id (α:=CSc ["_law_purse_here","_law_some","_law_size","_law_p","_law_m","_law_many","_law_start","_law_turn","_law_field_here"] (zac yaF) ["_law_p"] [] [] _) ⟨by rfl,by decide +kernel,by decide +kernel,by decide +kernel,by decide +kernel,by rfl,by decide +kernel⟩) rfl (@za0 _ _ _ _ (@zaZ _ _ _ _ (@zaa _ _ _ _ _ zab (@zaa _ _ _ _ _ zab (@zaa _ _ _ _ _ zab (@zaa _ _ _ _ _ zab (@zaa _ _ _ _ _ zab (@zaa _ _ _ _ _ zab (@zaa _ _ _ _ _ zab (@zaa _ _ _ _ _ zab (@zaa _ _ _ _ _ zab (@zaa _ _ _ _ _ zab (@zaa _ _ _ _ _ zab yab (by rfl)) (by rfl)) (by rfl)) (by rfl)) (by rfl)) (by rfl)) (by rfl)) (by rfl)) (by rfl)) (by rfl)) (by rfl)))) (fun cl C fp s H=>(@zaf _ _ 0 _ (by show List.Nodup (["_law_p"]:List Str);decide +kernel) rfl (Or.inl rfl) (by first|exact .inl rfl|exact .inr rfl|assumption))) (fun _ _ _ _ _=>yba) (fun _ _ _ _ _=>(@ybm _ _ _ _ _ (@zaa _ _ _ _ _ (pv 0) (@zaa _ _ _ _ _ zab yab (by rfl)) (by rfl)))) (by rfl) (by intro _;rfl) (by first|exact .inl rfl|exact .inr rfl|assumption))) zat) (@yaa _ _ _ _ _ (@ybn _ _ _ _ _ _ (@zan _ _ _ _ _ _ _ yam (pv 1) (@zae _ _ _ _ _ _ _ _ _ _ _ h__law_pick hr (by decide) rfl (@zaa _ _ _ _ _ (pv 0) (@zaa _ _ _ _ _ (@yan _ _ _ _ _ _ _ _ _ yaz rfl (B "len" (by decide)) PySem.boot_len (@zaa _ _ _ _ _ (pv 1) yab (by rfl)) (by decide) (by decide) (by rfl) (by rfl)) yab (by rfl)) (by rfl)) (by decide) (by rfl) (by rfl)) (fun _ _=>rfl)) (@zbo _ _ _ _ _ _ rfl (@yak _ _ _ _ _ (@zaf _ _ 3 _ yao.nd rfl (Or.inl rfl) (by first|exact .inl rfl|exact .inr rfl|assumption)) (@yak _ _ _ _ _ (@zaf _ _ 4 _ yao.nd rfl (Or.inl rfl) (by first|exact .inl rfl|exact .inr rfl|assumption)) za1 (by rfl)) (by rfl)) (by rfl) (by rfl)) (by rfl) (by rfl) (by rfl)) (@yaa _ _ _ _ _ (@yag _ _ 5 _ _ _ _ yao.nd rfl (Or.inl rfl) (@zae _ _ _ _ _ _ _ _ _ _ _ h__law_raised hr (by decide) rfl (@zaa _ _ _ _ _ (pv 3) (@zaa _ _ _ _ _ (pv 4) yab (by rfl)) (by rfl)) (by decide) (by rfl) (by rfl)) (by rfl) (by first|exact .inl rfl|exact .inr rfl|assumption)) (@yaa _ _ _ _ _ (@yag _ _ 6 _ _ _ _ yao.nd rfl (Or.inl rfl) (@zae _ _ _ _ _ _ _ _ _ _ _ h__law_pick hr (by decide) rfl (@zaa _ _ _ _ _ (pv 0) (@zaa _ _ _ _ _ (pv 5) yab (by rfl)) (by rfl)) (by decide) (by rfl) (by rfl)) (by rfl) (by first|exact .inl rfl|exact .inr rfl|assumption)) (@yaa _ _ _ _ _ (@zaz _ _ _ _ _ _ _ _ PassesOwn.never rfl (@yay _ _ _ _ _ _ rfl (B "range" (by decide)) (@zaa _ _ _ _ _ (pv 5) yab (by rfl)) (by rfl)) (@zaf _ _ 7 _ yao.nd rfl (Or.inl rfl) (by first|exact .inl rfl|exact .inr rfl|assumption)) (@yaa _ _ _ _ _ (@yag _ _ 8 _ _ _ _ yao.nd rfl (Or.inl rfl) (@ybm _ _ _ _ _ (@zaa _ _ _ _ _ (pv 3) (@zaa _ _ _ _ _ (pv 4) (@zaa _ _ _ _ _ (@zag _ _ _ _ _ _ _ _ zav (@zag _ _ _ _ _ _ _ _ zao (pv 6) (pv 7)) (pv 5)) yab (by rfl)) (by rfl)) (by rfl))) (by rfl) (by first|exact .inl rfl|exact .inr rfl|assumption)) (@zad _ _ _ (@ya0 _ _ _ _ _ _ _ _ (@PW.pt _ _ _ (@ycL _ _ _ _ _ _ _ (@zah _ _ _ _ _ _ _ _ yby (pv 4) zab (yai _)) (@zbG _ _ _ _ (@ycZ _ _ _ (@zae _ _ _ _ _ _ _ _ _ _ _ h__law_is_good hr (by decide) rfl (@zaa _ _ _ _ _ (pv 8) yab (by rfl)) (by decide) (by rfl) (by rfl)) (by intro _;rfl))))) (@zad _ _ _ (@yal _ _ _ _ (pv 8))) zat))) (by intro _;rfl)) (@zad _ _ _ (@yal _ _ _ _ (@ybm _ _ _ _ _ (@zaa _ _ _ _ _ (pv 3) (@zaa _ _ _ _ _ zab (@zaa _ _ _ _ _ zab yab (by rfl)) (by rfl)) (by rfl))))))))))))),?_⟩
  refine zcd [(2,1),(2,2),(2,3),(2,4),(3,1),(3,2),(3,3),(5,1),(5,2),(7,1),(11,1),(13,1)] _ H _ ?_ fun ts H0 s0 hts hpair=>?_
  · intro x hx
    simp only [List.mem_cons,List.not_mem_nil,or_false] at hx
    rcases hx with rfl|rfl|rfl|rfl|rfl|rfl|rfl|rfl|rfl|rfl|rfl|rfl
    · exact ⟨2,1,rfl,by decide +kernel⟩
    · exact ⟨2,2,rfl,by decide +kernel⟩
    · exact ⟨2,3,rfl,by decide +kernel⟩
    · exact ⟨2,4,rfl,by decide +kernel⟩
    · exact ⟨3,1,rfl,by decide +kernel⟩
    · exact ⟨3,2,rfl,by decide +kernel⟩
    · exact ⟨3,3,rfl,by decide +kernel⟩
    · exact ⟨5,1,rfl,by decide +kernel⟩
    · exact ⟨5,2,rfl,by decide +kernel⟩
    · exact ⟨7,1,rfl,by decide +kernel⟩
    · exact ⟨11,1,rfl,by decide +kernel⟩
    · exact ⟨13,1,rfl,by decide +kernel⟩
  refine ⟨by rw [List.length_map,hts];exact szl 12,fun l hl=>?_⟩
  have hP0:Pu (upd H0 l (.lst (ts.map V.ref))) a g:=hP.same (s0.trans (yad hl _))
  have sx0:zar a g H (upd H0 l (.lst (ts.map V.ref))):=Same.x (s0.trans (yad hl _))
  have M0:Menu a g (upd H0 l (.lst (ts.map V.ref))) l 12:=by
    have n1:=(hP.same s0).lt hl
    refine ⟨⟨ts,yac,hts,fun t ht=>?_⟩,n1.1,n1.2⟩
    have n2:=hP.lt (hpair t ht).1
    exact ⟨n2.1,n2.2,(hpair t ht).2.same fun o e=>(yad hl _) _ _ e⟩
  generalize upd H0 l (.lst (ts.map V.ref))=G at hP0 sx0 M0 ⊢
  refine ⟨_,rfl,a,g,8,rfl,hP0,by omega,by omega,fun sz H1 hsz hP1 sx1=>?_⟩
  have sxA:=sx0.trans sx1
  have M1:=M0.x sx1
  dsimp only [zas]
  refine zbl (fun σ H'=>∃l n,0<n∧n≤12∧Menu a g H' l n∧Pu H' a g∧zar a g H H'∧σ=[some (.ref a),some (.ref l),some (Vn sz),none,none,none,none,none,none]) ?_ ?_
  · rintro σ H2 ⟨l,n,hn,hn2,M2,hP2,sx2,rfl⟩
    refine zbl (fun σ H'=>∃l n,0<n∧n≤12∧Menu a g H' l n∧Pu H' a g∧zar a g H H'∧σ=[some (.ref a),some (.ref l),some (Vn sz),none,none,none,none,none,none]) ?_ ?_
    · rintro σ H3 ⟨l,n,hn,hn2,M3,hP3,sx3,rfl⟩
      obtain ⟨ts3,e3,l3,p3⟩:=M3.ex
      refine ⟨_,rfl,_,rfl,_,rfl,l,_,rfl,.inl (SqL.of e3),?_⟩
      refine ⟨a,g,n,by rw [List.length_map,l3];rfl,hP3,hn,by omega,fun i H4 hi hP4 sx4=>?_⟩
      obtain ⟨ts4,e4,l4,p4⟩:=(M3.x sx4).ex
      have hi4:i<ts4.length:=by omega
      refine ⟨l,_,_,.ref (ts4[i]),rfl,rfl,SqL.of e4,za8 (by rw [List.getElem?_map,List.getElem?_eq_getElem hi4];rfl),?_⟩
      obtain ⟨_,_,p,m,ep,hmem⟩:=p4 ts4[i] (List.getElem_mem hi4)
      obtain ⟨hp,hm,hpm⟩:=zbf hmem
      have hp2:=p_le hp hm hpm
      have hm6:=m_le hp hpm
      have hpos:0<p^m:=Nat.pow_pos (by omega)
      refine ⟨ts4[i],_,rfl,SqT.of ep,rfl,_,_,rfl,_,_,rfl,rfl,?_⟩
      refine ⟨_,rfl,_,rfl,p,m,rfl,hp2,by omega,?_⟩
      refine ⟨_,rfl,_,rfl,a,g,p^m,rfl,hP4,hpos,by omega,fun st H5 hst hP5 sx5=>?_⟩
      have sxE:=sx3.trans (sx4.trans sx5)
      refine ⟨_,rfl,((p^m:Nat):Int),rfl,by omega,by omega,?_⟩
      refine zaY (n:=p^m) (fun i σ H'=>Pu H' a g∧zar a g H H'∧∃s7 s8,σ=[some (.ref a),some (.ref l),some (Vn sz),some (Vn p),some (Vn m),some (Vn (p^m)),some (Vn st),s7,s8]) ⟨hP5,sxE,none,none,rfl⟩ ?_ ?_
      · rintro j σ H6 hj ⟨hP6,sx6,s7,s8,rfl⟩
        refine ⟨_,rfl,_,rfl,_,rfl,_,rfl,_,_,rfl,rfl,?_⟩
        refine ⟨_,rfl,_,_,rfl,rfl,by show (0:Int)<((p^m:Nat):Int);omega,?_⟩
        refine ⟨szl 3,fun r hr=>?_⟩
        have nr:=hP6.lt hr
        have hr0:H r=none:=by
          cases e:H r with
          | none=>rfl
          | some o=>rw [sx6 r o nr.1 nr.2 e] at hr;cases hr
        have et:V.int ((((st:Nat):Int)+(0+(j:Int)))%((p^m:Nat):Int))=Vn ((st+j)%p^m):=by show V.int _=V.int _;congr 1;rw [Int.zero_add];rfl
        have hlt:(st+j)%p^m<p^m:=Nat.mod_lt _ hpos
        have hP7:Pu (upd H6 r (.tup [Vn p,Vn m,Vn ((st+j)%p^m)])) a g:=hP6.same (yad hr _)
        have sx7:zar a g H (upd H6 r (.tup [Vn p,Vn m,Vn ((st+j)%p^m)])):=sx6.trans (Same.x (yad hr _))
        dsimp only [zas]
        rw [et]
        refine ⟨_,rfl,rfl,_,rfl,?_⟩
        refine ite2 (fun c=>?_) (fun c=>?_)
        · refine ite2 (fun _=>?_) (fun c=>absurd rfl c)
          have hm1:m=1:=by
            have:=of_decide_eq_true c
            injection this with this
            omega
          exact ⟨_,rfl,q r p m _ _ nr.1 nr.2 hr0 yac ⟨hmem,hlt,.inl hm1⟩ hP7 sx7⟩
        · refine ⟨_,rfl,r,p,m,(st+j)%p^m,rfl,SqT.of yac,hp,hm,hpm,hlt,fun b H8 s8' hb=>?_⟩
          refine ⟨_,rfl,?_⟩
          refine ite2 (fun c2=>?_) (fun _=>?_)
          · exact ⟨_,rfl,q r p m _ _ nr.1 nr.2 hr0 (s8' _ _ yac) ⟨hmem,hlt,.inr (hb c2)⟩ (hP7.same s8') (sx7.trans (Same.x s8'))⟩
          · exact ⟨hP7.same s8',sx7.trans (Same.x s8'),_,_,rfl⟩
      · rintro σ H6 ⟨hP6,sx6,s7,s8,rfl⟩
        refine ⟨_,rfl,szl 3,fun r hr=>?_⟩
        have nr:=hP6.lt hr
        have hr0:H r=none:=by
          cases e:H r with
          | none=>rfl
          | some o=>rw [sx6 r o nr.1 nr.2 e] at hr;cases hr
        exact q r p 1 0 _ nr.1 nr.2 hr0 yac ⟨ye7 hmem,by simp;omega,.inl rfl⟩ (hP6.same (yad hr _)) (sx6.trans (Same.x (yad hr _)))
    · intro D' _ _ _ hD
      refine ⟨_,rfl,rfl,_,rfl,?_⟩
      refine ite2 (fun c=>?_) (fun c=>hD _ _ ⟨l,n,hn,hn2,M2,hP2,sx2,rfl⟩)
      refine ⟨szl 11,fun l2 hl2=>?_⟩
      refine ⟨l2,rfl,⟨_,SqL.of yac⟩,?_⟩
      refine zaE (zaN (xs:=zbI.map Vn)) (fun k acc H'=>Same (upd H2 l2 (.lst (zbI.map Vn))) H'∧∃ts:List Addr,ts.length=k∧acc=ts.map V.ref∧∀t∈ts,t≠a∧t≠g∧zcl H' t)
        ⟨Same.refl _,[],rfl,rfl,fun t ht=>nomatch ht⟩ (fun i acc H' _ h=>SqL.of (h.1 _ _ yac)) ?_ ?_ ?_
      · rintro k acc H' hk ⟨_,ts,e,rfl,_⟩
        have hk':k<11:=hk
        rw [List.length_map,e];exact zap (by omega)
      · rintro k acc x H3 H4 hk ⟨s3,ts,e,rfl,hts⟩ ⟨rfl,hx⟩
        obtain ⟨pr,hpr,rfl⟩:∃pr,pr∈zbI∧x=Vn pr:=by
          rw [List.getElem?_map] at hx
          cases e:zbI[k]? with
          | none=>rw [e] at hx;cases hx
          | some pr=>rw [e] at hx;cases hx;exact ⟨pr,List.mem_of_getElem? e,rfl⟩
        have hb:(pr,1)∈Dg.menu:=(by decide +kernel:∀x∈zbI,(x,1)∈Dg.menu) pr hpr
        refine ⟨_,rfl,szl 2,fun t ht=>?_⟩
        have hP3:Pu H4 a g:=hP2.same ((yad hl2 _).trans s3)
        have nt:=hP3.lt ht
        refine ⟨s3.trans (yad ht _),ts++[t],by simp [e],by simp,fun t' ht'=>?_⟩
        rcases List.mem_append.mp ht' with h|h
        · exact ⟨(hts t' h).1,(hts t' h).2.1,(hts t' h).2.2.same fun o e=>(yad ht _) _ _ e⟩
        · cases List.mem_singleton.mp h
          exact ⟨nt.1,nt.2,pr,1,yac,hb⟩
      · rintro acc H3 ⟨s3,ts,e,rfl,hts⟩ D hD3
        have sA:Same H2 H3:=(yad hl2 _).trans s3
        have hP3:Pu H3 a g:=hP2.same sA
        have nD:=hP3.lt hD3
        refine hD _ _ ⟨D,11,by omega,by omega,⟨⟨ts,yac,e,fun t ht=>?_⟩,nD.1,nD.2⟩,hP3.same (yad hD3 _),sx2.trans (Same.x (sA.trans (yad hD3 _))),rfl⟩
        exact ⟨(hts t ht).1,(hts t ht).2.1,(hts t ht).2.2.same fun o e=>(yad hD3 _) _ _ e⟩
  · intro D' _ _ _ hD
    refine ⟨_,rfl,rfl,_,rfl,?_⟩
    refine ite2 (fun c=>?_) (fun c=>hD _ _ ⟨l,12,by omega,by omega,M1,hP1,sxA,rfl⟩)
    refine zcd [(2,5),(2,6),(7,2),(61,1)] _ H1 _ ?_ fun ts2 H2 s2 hts2 hpair2=>?_
    · intro x hx
      simp only [List.mem_cons,List.not_mem_nil,or_false] at hx
      rcases hx with rfl|rfl|rfl|rfl
      · exact ⟨2,5,rfl,by decide +kernel⟩
      · exact ⟨2,6,rfl,by decide +kernel⟩
      · exact ⟨7,2,rfl,by decide +kernel⟩
      · exact ⟨61,1,rfl,by decide +kernel⟩
    refine ⟨by rw [List.length_map,hts2];exact szl 4,fun l2 hl2=>?_⟩
    refine hD _ _ ⟨l2,4,by omega,by omega,?_,hP1.same (s2.trans (yad hl2 _)),sxA.trans (Same.x (s2.trans (yad hl2 _))),rfl⟩
    have n1:=(hP1.same s2).lt hl2
    refine ⟨⟨ts2,yac,hts2,fun t ht=>?_⟩,n1.1,n1.2⟩
    have n2:=hP1.lt (hpair2 t ht).1
    exact ⟨n2.1,n2.2,(hpair2 t ht).2.same fun o e=>(yad hl2 _) _ _ e⟩
end
end My
end
section
-- text: P8
set_option Elab.async false
set_option linter.all false
set_option maxRecDepth 100000
set_option maxHeartbeats 4000000
namespace My
open PySem L2 Dg
theorem zcQ:bootBuiltins "dict"=some (.type "dict"):=by decide +kernel
noncomputable def Pws (p m t b:Nat):List Nat:=(List.range (p^m-1)).map (pw p m t b)
noncomputable def Logs (p m t b:Nat):List (Key×V):=(List.range (p^m-1)).map fun i=>(Sum.inl ((pw p m t b i:Nat):Int),Vn i)
noncomputable def tabD (fa pa la:Addr) (p m:Nat):List (Key×V):=[(.inr "field",.ref fa),(.inr "p",Vn p),(.inr "m",Vn m),(.inr "many",Vn (p^m)),(.inr "powers",.ref pa),(.inr "logs",.ref la)]
structure Tab (H:Hp) (tb fa pa la:Addr) (p m t b:Nat):Prop where
  d:H tb=some (.dK (tabD fa pa la p m))
  f:H fa=some (.tup [Vn p,Vn m,Vn t])
  w:H pa=some (.lst ((Pws p m t b).map Vn))
  l:H la=some (.dK (Logs p m t b))
  good:Good p m t
  prim:Prim p m t b
theorem Tab.same {H H':Hp} {tb fa pa la:Addr} {p m t b:Nat} (T:Tab H tb fa pa la p m t b) (s:Same H H'):Tab H' tb fa pa la p m t b :=
  ⟨s _ _ T.d,s _ _ T.f,s _ _ T.w,s _ _ T.l,T.good,T.prim⟩
theorem zbq {α:Type} {f:Nat→α} (n:Nat) (h:∀i j,i<n→j<n→f i=f j→i=j):((List.range n).map f).Nodup:=by
  rw [List.Nodup,List.pairwise_iff_getElem]
  intro i j hi hj hij
  simp only [List.length_map,List.length_range] at hi hj
  simp only [List.getElem_map,List.getElem_range]
  intro e
  have:=h i j hi hj e
  omega
theorem zdU {f:Nat→Key} {g:Nat→V}:∀(l:List Nat) (n:Nat),l=List.range n→(∀i j,i<n→j<n→f i=f j→i=j)→∀i,i<n→valV (l.map fun i=>(f i,g i)) (f i)=some (g i):=by
  intro l n hl h i hi
  subst hl
  unfold valV
  rw [List.find?_map]
  have e:(List.range n).find? ((fun kv:Key×V=>decide (kv.1=f i)) ∘ fun i=>(f i,g i))=some i:=by
    rw [List.find?_range_eq_some]
    refine ⟨by simp,by simpa using hi,fun j hj=>?_⟩
    simp only [Function.comp,Bool.not_eq_true',decide_eq_false_iff_not]
    intro e
    have:=h j i (by omega) hi e
    omega
  rw [e];rfl
theorem zd2 (fa pa la:Addr) (p m:Nat):ycr [] (tabD fa pa la p m)=tabD fa pa la p m:=rfl
theorem ycy (p m t b:Nat):(Pws p m t b).length=p^m-1:=by simp [Pws]
section
variable {P:Program} {w:World} {K:PySem.W.Frag} {mg:Str→Option Value} {base:Heap} {f:Addr} {fd:FuncData}
noncomputable def zdD:Sp:=fun vs H Q _=>∃(fa:Addr) (p m t:Nat),vs=[.ref fa]∧H fa=some (.tup [Vn p,Vn m,Vn t])∧Good p m t∧∀tb pa la b H',H tb=none→H pa=none→H la=none→Tab H' tb fa pa la p m t b→Same H H'→Q (.ref tb) H'
theorem zaL:zak ["_law_field_here","_law_many","_law_powers","_law_base","_law_thing","_law_logs"] ["_law_field_here"] (zac yaG):=⟨rfl,rfl,rfl,by decide +kernel,rfl,by decide +kernel,by decide +kernel⟩
theorem ye9 (B:Bl mg) (h__law_raised:Has P w K mg base 1 "_law_raised" ["_law_one","_law_many"] zau) (h__law_product:Has P w K mg base 2 "_law_product" ["_law_field_here","_law_one","_law_other"] (zbR K)) (F:Fun K "_law_table" "_law_table" yaG f fd):FnOk P w K mg base CX0 3 f fd ["_law_field_here"] zdD:=by
  refine F.ok zaL (fun vs H Q E h=>?_) (fun cdv A outer s H vs Q E hr h=>?_)
  · obtain ⟨fa,p,m,t,rfl,_⟩:=h;rfl
  obtain ⟨fa,p,m,t,rfl,hf,G,q⟩:=h
  obtain ⟨b,Pb⟩:=G.prim
  have hp:=G.hp
  have hm:=G.hm
  have hpm:=G.hq
  have ht:=G.top
  have hp2:=p_le hp hm hpm
  have hm6:=m_le hp hpm
  have hQ2:=zbK hp hm
  have hbp:=Pb.pos
  have hbl:=Pb.lt
  refine ⟨_,(@yaa _ _ _ _ _ (@yag _ _ 1 _ _ _ _ zaL.nd rfl (Or.inl rfl) (@zae _ _ _ _ _ _ _ _ _ _ _ h__law_raised hr (by decide) rfl (@zaa _ _ _ _ _ (@zan _ _ _ _ _ _ _ yaw (pv 0) zab (fun _ _=>rfl)) (@zaa _ _ _ _ _ (@zan _ _ _ _ _ _ _ yaw (pv 0) zab (fun _ _=>rfl)) yab (by rfl)) (by rfl)) (by decide) (by rfl) (by rfl)) (by rfl) (by first|exact .inl rfl|exact .inr rfl|assumption)) (@yaa _ _ _ _ _ (@zbU _ _ 2 3 _ _ _ _ _ _ _ _ _ _ _ rfl zaL.nd rfl rfl (by decide) rfl rfl (@zaa _ _ _ _ _ (@zaZ _ _ _ _ yab) (@zaa _ _ _ _ _ zab yab (by rfl)) (by rfl)) rfl (by rfl)) (@yaa _ _ _ _ _ (@yax _ _ _ _ _ _ PassesOwn.never (@zah _ _ _ _ _ _ _ _ ydY (@yan _ _ _ _ _ _ _ _ _ yaz rfl (B "len" (by decide)) PySem.boot_len (@zaa _ _ _ _ _ (pv 2) yab (by rfl)) (by decide) (by decide) (by rfl) (by rfl)) (@zag _ _ _ _ _ _ _ _ zbA (pv 1) zab) (yai _)) (@yaa _ _ _ _ _ (@zfs _ _ 3 2 4 _ _ _ _ _ _ _ _ _ _ _ _ _ _ rfl zaL.nd rfl rfl rfl (by decide) rfl rfl rfl (@zaa _ _ _ _ _ (@zag _ _ _ _ _ _ _ _ zao (pv 3) zab) (@zaa _ _ _ _ _ (@zaZ _ _ _ _ (@zaa _ _ _ _ _ zab yab (by rfl))) (@zaa _ _ _ _ _ (@zag _ _ _ _ _ _ _ _ zao (pv 3) zab) yab (by rfl)) (by rfl)) (by rfl)) rfl (by rfl)) (@zad _ _ _ (@yax _ _ _ _ _ _ PassesOwn.never (@zah _ _ _ _ _ _ _ _ yc2 (pv 4) zab (yai _)) (@yaa _ _ _ _ _ (@zbp _ _ _ _ (@ydr _ _ _ _ _ _ _ _ _ _ _ _ PySem.F.plainAttrs_list PySem.F.slot_list_append PySem.F.type_list_append ybf (pv 2) (@zaa _ _ _ _ _ (pv 4) yab (by rfl)) (by rfl) (by rfl) (by rfl) (by rfl) (by rfl)) (by rfl)) (@zad _ _ _ (@yag _ _ 4 _ _ _ _ zaL.nd rfl (Or.inl rfl) (@zae _ _ _ _ _ _ _ _ _ _ _ h__law_product hr (by decide) rfl (@zaa _ _ _ _ _ (pv 0) (@zaa _ _ _ _ _ (pv 4) (@zaa _ _ _ _ _ (pv 3) yab (by rfl)) (by rfl)) (by rfl)) (by decide) (by rfl) (by rfl)) (by rfl) (by first|exact .inl rfl|exact .inr rfl|assumption)))))))) (@yaa _ _ _ _ _ (@yag _ _ 5 _ _ _ _ zaL.nd rfl (Or.inl rfl) (@ybG _ _ _ _ _ _ _ _ _ (zca rfl) rfl (B "dict" (by decide)) zcQ (@zaa _ _ _ _ _ (@zbm _ _ _ _ _ _ _ ["_law_at","_law_thing"] [] [] _ _ _ _ (id (α:=CSc ["_law_field_here","_law_many","_law_powers","_law_base","_law_thing","_law_logs"] (zac yaG) ["_law_at","_law_thing"] [] [] _) ⟨by rfl,by decide +kernel,by decide +kernel,by decide +kernel,by decide +kernel,by rfl,by decide +kernel⟩) rfl (@zcJ _ _ _ _ _ _ _ _ rfl (B "enumerate" (by decide)) (@zaa _ _ _ _ _ (pv 2) yab (by rfl)) (by rfl)) (fun cl C fp s H=>(@yfB _ _ _ _ 2 _ K rfl rfl (@yak _ _ _ _ _ (@zaf _ _ 0 _ (by show List.Nodup (["_law_at","_law_thing"]:List Str);decide +kernel) rfl (Or.inl rfl) (by first|exact .inl rfl|exact .inr rfl|assumption)) (@yak _ _ _ _ _ (@zaf _ _ 1 _ (by show List.Nodup (["_law_at","_law_thing"]:List Str);decide +kernel) rfl (Or.inl rfl) (by first|exact .inl rfl|exact .inr rfl|assumption)) za1 (by rfl)) (by rfl)) (by rfl) (by rfl))) (fun _ _ _ _ _=>yba) (fun _ _ _ _ _=>(@ybm _ _ _ _ _ (@zaa _ _ _ _ _ (pv 1) (@zaa _ _ _ _ _ (pv 0) yab (by rfl)) (by rfl)))) (by intro _;rfl)) yab (by rfl)) (by decide) (by decide) (by rfl) (by rfl)) (by rfl) (by first|exact .inl rfl|exact .inr rfl|assumption)) (@zad _ _ _ (@yal _ _ _ _ (@zfo _ _ _ _ _ (@ybu _ _ _ _ _ _ _ _ _ ya1 (pv 0) (@ybu _ _ _ _ _ _ _ _ _ ya1 (@zan _ _ _ _ _ _ _ yaw (pv 0) zab (fun _ _=>rfl)) (@ybu _ _ _ _ _ _ _ _ _ ya1 (@zan _ _ _ _ _ _ _ yaw (pv 0) zab (fun _ _=>rfl)) (@ybu _ _ _ _ _ _ _ _ _ ya1 (pv 1) (@ybu _ _ _ _ _ _ _ _ _ ya1 (pv 2) (@ybu _ _ _ _ _ _ _ _ _ ya1 (pv 5) zfp)))))) rfl rfl (fun h=>nomatch h) (by decide)))))))),?_⟩
  refine ⟨_,rfl,fa,_,_,_,rfl,rfl,SqT.of hf,rfl,?_⟩
  refine ⟨_,rfl,fa,_,_,_,rfl,rfl,SqT.of hf,rfl,?_⟩
  refine ⟨p,m,rfl,hp2,by omega,?_⟩
  refine ⟨szl 0,fun l0 hl0=>⟨_,_,rfl,?_⟩⟩
  dsimp only []
  refine zbl (fun σ H'=>Same H H'∧∃pa s4,H pa=none∧H' pa=some (.lst ((Pws p m t b).map Vn))∧σ=[some (.ref fa),some (Vn (p^m)),some (.ref pa),some (Vn b),s4,none]) ?_ ?_
  · rintro σ H1 ⟨s1,pa,s4,npa,epa,rfl⟩
    refine ⟨_,rfl,false,pa,rfl,⟨_,SqL.of epa⟩,?_⟩
    refine zaE (ybH (b:=false) (xs:=(Pws p m t b).map Vn)) (fun k acc H'=>Same H1 H'∧∃ts:List Addr,ts.length=k∧acc=ts.map V.ref∧∀j a,ts[j]?=some a→H' a=some (.tup [Vn (pw p m t b j),Vn j])) ⟨Same.refl _,[],rfl,rfl,fun j a e=>by simp at e⟩ (fun i acc H' _ h=>SqL.of (h.1 _ _ epa)) ?_ ?_ ?_
    · rintro k acc H' hk ⟨_,ts,e,rfl,_⟩
      rw [List.length_map,ycy] at hk
      rw [List.length_map,e];exact zap (by omega)
    · rintro k acc x H2 H3 hk ⟨s2,ts,e,rfl,hts⟩ ⟨T,u,rfl,eu,hT,rfl⟩
      rw [List.length_map,ycy] at hk
      have eu2:u=Vn (pw p m t b k):=by
        unfold Pws at eu
        rw [List.getElem?_map,List.getElem?_map,List.getElem?_range hk] at eu
        exact (Option.some.inj eu).symm
      subst eu2
      refine ⟨T,_,rfl,SqT.of yac,rfl,_,_,rfl,_,_,rfl,rfl,?_⟩
      refine ⟨_,rfl,_,rfl,szl 2,fun a ha=>?_⟩
      have sA:=(yad hT (.tup [.int (k:Int),Vn (pw p m t b k)])).trans (yad ha (.tup [Vn (pw p m t b k),Vn k]))
      refine ⟨s2.trans sA,ts++[a],by simp [e],by simp,fun j a' ej=>?_⟩
      rw [List.getElem?_append] at ej
      split at ej
      · exact sA _ _ (hts j a' ej)
      · rename_i h
        have hj:j=k:=by
          have:=(List.getElem?_eq_some_iff.mp ej).1
          simp at this;omega
        subst hj
        simp [e] at ej
        subst ej
        exact yac
    · rintro acc H2 ⟨s2,ts,e,rfl,hts⟩ D hD
      rw [List.length_map,ycy] at e
      have sB:=yad hD (.lst (ts.map V.ref))
      refine ⟨D,ts,Logs p m t b,rfl,yac,by rw [e];simp [Logs],by simp only [Logs,List.length_map,List.length_range];exact szl _ (by omega),fun j a kv ej ek=>?_,?_,fun la hla=>?_⟩
      · have hj:j<p^m-1:=by have:=(List.getElem?_eq_some_iff.mp ej).1;omega
        unfold Logs at ek
        rw [List.getElem?_map,List.getElem?_range hj] at ek
        cases ek
        exact sB _ _ (hts j a ej)
      · unfold Logs
        rw [List.map_map]
        refine zbq _ fun i j hi hj e=>G.inj Pb i j hi hj ?_
        have e:Sum.inl ((pw p m t b i:Nat):Int)=(Sum.inl ((pw p m t b j:Nat):Int):Key):=e
        injection e with e
        omega
      · intro tb htb
        have s3:Same H1 (upd (upd H2 D (.lst (ts.map V.ref))) la (.dK (Logs p m t b))):=(s2.trans sB).trans (yad hla _)
        have s4:=s3.trans (yad htb (.dK []))
        have s5:=s1.trans s4
        refine ⟨_,rfl,_,rfl,fa,_,_,_,rfl,rfl,SqT.of (s5 _ _ hf),rfl,?_⟩
        refine ⟨_,rfl,fa,_,_,_,rfl,rfl,SqT.of (s5 _ _ hf),rfl,?_⟩
        refine ⟨_,rfl,_,rfl,_,rfl,yac,tabD fa pa la p m,rfl,by show 6≤15;decide,?_⟩
        rw [ydh,zd2]
        have s6:=s3.trans (yad htb (.dK (tabD fa pa la p m)))
        have s7:=s1.trans s6
        have old:∀a,H1 a=none→H a=none:=fun a ha=>by
          cases e:H a with
          | none=>rfl
          | some o=>rw [s1 _ _ e] at ha;cases ha
        have old2:∀a,upd H2 D (.lst (ts.map V.ref)) a=none→H a=none:=fun a ha=>by
          cases e:H a with
          | none=>rfl
          | some o=>rw [(s2.trans sB) _ _ (s1 _ _ e)] at ha;cases ha
        refine q tb pa la b _ ?_ npa (old2 la hla) ⟨yac,s7 _ _ hf,s6 _ _ epa,(yad htb _) _ _ yac,G,Pb⟩ s7
        cases e:H tb with
        | none=>rfl
        | some o=>rw [s3 _ _ (s1 _ _ e)] at htb;cases htb
  · intro D' _ _ _ hD
    refine zax (fun σ H'=>Same H H'∧∃base pa s4,H pa=none∧σ=[some (.ref fa),some (Vn (p^m)),some (.ref pa),some (Vn base),s4,none]∧∃L:List Nat,H' pa=some (.lst (L.map Vn))∧((base=b∧L=Pws p m t b)∨(base<b∧L.length<p^m-1)))
      (fun σ _=>b-mI σ 3) ⟨yad hl0 _,0,l0,none,hl0,rfl,[],yac,.inr ⟨hbp,by show 0<p^m-1;omega⟩⟩ ?_
    rintro σ H1 ⟨s1,bs,pa,s4,npa,rfl,L,ePa,hL⟩
    refine ⟨_,rfl,pa,_,rfl,.inl (SqL.of ePa),?_⟩
    refine ⟨_,rfl,_,_,rfl,rfl,_,_,rfl,rfl,_,rfl,?_⟩
    rw [List.length_map]
    refine ite2 (fun c=>?_) (fun c=>?_)
    · have c':L.length<p^m-1:=by have:=of_decide_eq_true c;omega
      have hlt:bs<b:=by
        rcases hL with ⟨rfl,rfl⟩|h
        · rw [ycy] at c';omega
        · exact h.1
      refine ⟨fun σ' H'=>Same H H'∧∃pa s4,H pa=none∧σ'=[some (.ref fa),some (Vn (p^m)),some (.ref pa),some (Vn (bs+1)),s4,none]∧∃L:List Nat,H' pa=some (.lst (L.map Vn))∧((bs+1=b∧L=Pws p m t b)∨(bs+1<b∧L.length<p^m-1)),?_,?_⟩
      · rintro σ' H' ⟨s2,pa2,s5,n2,rfl,L2,e2,h2⟩
        refine ⟨_,?_,rfl,s2,bs+1,pa2,s5,n2,rfl,L2,e2,h2⟩
        show b-(bs+1)<b-bs;omega
      refine ⟨_,rfl,_,_,rfl,rfl,?_⟩
      refine ⟨szl 1,fun l1 hl1=>?_⟩
      refine ⟨_,rfl,_,_,rfl,rfl,_,_,_,rfl,?_⟩
      have n1:H l1=none:=by
        cases e:H l1 with
        | none=>rfl
        | some o=>rw [s1 _ _ e] at hl1;cases hl1
      have hb1:bs+1<p^m:=by omega
      have nfa:fa≠l1:=yae hf n1
      refine zax (fun σ H'=>zar l1 l1 H1 H'∧∃k,1≤k∧k≤p^m-1∧σ=[some (.ref fa),some (Vn (p^m)),some (.ref l1),some (Vn (bs+1)),some (Vn (pw p m t (bs+1) k)),none]∧H' l1=some (.lst (((List.range k).map (pw p m t (bs+1))).map Vn))∧∀i,0<i→i<k→pw p m t (bs+1) i≠1)
        (fun _ H'=>p^m-zbX H' l1) ⟨Same.x (yad hl1 _),1,by omega,by omega,?_,yac,fun i h1 h2=>by omega⟩ ?_
      · rw [ydG hp hm hb1];rfl
      rintro σ H2 ⟨sx2,k,hk1,hk2,rfl,e2,hne⟩
      have hlen:zbX H2 l1=k:=by rw [zbb e2];simp
      refine ⟨_,rfl,rfl,_,rfl,?_⟩
      refine ite2 (fun c=>?_) (fun c=>?_)
      · have hk:pw p m t (bs+1) k≠1:=by
          intro e
          rw [e] at c
          exact absurd c (by decide)
        have hk3:k<p^m-1:=by
          rcases Nat.lt_or_ge k (p^m-1) with h|h
          · exact h
          · have:k=p^m-1:=by omega
            rw [this] at hk
            exact absurd (G.fermat (by omega) hb1) hk
        have hf2:H2 fa=some (.tup [Vn p,Vn m,Vn t]):=sx2 _ _ nfa nfa (s1 _ _ hf)
        have e3:((List.range k).map (pw p m t (bs+1))).map Vn++[Vn (pw p m t (bs+1) k)]=((List.range (k+1)).map (pw p m t (bs+1))).map Vn:=by
          rw [List.range_succ,List.map_append,List.map_append];rfl
        refine ⟨fun σ' H'=>zar l1 l1 H1 H'∧σ'=[some (.ref fa),some (Vn (p^m)),some (.ref l1),some (Vn (bs+1)),some (Vn (pw p m t (bs+1) (k+1))),none]∧H' l1=some (.lst (((List.range (k+1)).map (pw p m t (bs+1))).map Vn)),?_,?_⟩
        · rintro σ' H' ⟨a1,rfl,a3⟩
          have hl2:zbX H' l1=k+1:=by rw [zbb a3];simp
          refine ⟨_,?_,rfl,a1,k+1,by omega,by omega,rfl,a3,fun i h1 h2=>?_⟩
          · show p^m-zbX H' l1<p^m-zbX H2 l1;rw [hl2,hlen];omega
          · rcases Nat.lt_or_ge i k with h|h
            · exact hne i h1 h
            · rw [show i=k by omega];exact hk
        refine ⟨_,rfl,.inl ⟨rfl,_,SqL.of e2⟩,_,rfl,?_⟩
        refine ⟨l1,_,_,rfl,rfl,e2,by simp only [List.length_map,List.length_range];exact zap (by omega),?_⟩
        rw [e3]
        have s3:zar l1 l1 H1 (upd H2 l1 (.lst (((List.range (k+1)).map (pw p m t (bs+1))).map Vn))):=yeD sx2
        refine ⟨_,rfl,_,rfl,_,rfl,fa,p,m,t,pw p m t (bs+1) k,bs+1,rfl,SqT.of (by rw [yaf nfa];exact hf2),hp,hm,hpm,ht,ycP hp hm _ _,hb1,fun r H4 s4' br hr=>?_⟩
        have e:=yeF hp hm br hr
        subst e
        exact ⟨s3.trans (Same.x s4'),rfl,s4' _ _ yac⟩
      · have hk:pw p m t (bs+1) k=1:=by
          rcases Nat.decEq (pw p m t (bs+1) k) 1 with h|h
          · exfalso
            refine c ?_
            rw [decide_eq_false];rfl
            intro e;injection e with e;exact h (by omega)
          · exact h
        refine ⟨(s1.trans (zcv (sx2) hl1)),l1,_,n1,rfl,_,e2,?_⟩
        rcases Nat.lt_or_ge (bs+1) b with h|h
        · refine .inr ⟨h,?_⟩
          obtain ⟨i,i0,i1,ie⟩:=Pb.low (bs+1) (by omega) h
          simp only [List.length_map,List.length_range]
          rcases Nat.lt_or_ge i k with h3|h3
          · exact absurd ie (hne i i0 h3)
          · omega
        · have hbb:bs+1=b:=by omega
          refine .inl ⟨hbb,?_⟩
          rw [hbb] at hk ⊢
          have:k=p^m-1:=by
            rcases Nat.lt_or_ge k (p^m-1) with h3|h3
            · exact absurd hk (Pb.min k (by omega) h3)
            · omega
          rw [this];rfl
    · have c':¬ L.length<p^m-1:=by
        intro h;exact c (decide_eq_true (by omega))
      rcases hL with ⟨rfl,rfl⟩|h
      · exact hD _ _ ⟨s1,pa,s4,npa,ePa,rfl⟩
      · exact absurd h.2 c'
theorem zgj {fa pa la:Addr} {p m:Nat}:valV (tabD fa pa la p m) (.inr "p")=some (Vn p):=rfl
theorem zf0 {fa pa la:Addr} {p m:Nat}:valV (tabD fa pa la p m) (.inr "m")=some (Vn m):=rfl
theorem ydI {fa pa la:Addr} {p m:Nat}:valV (tabD fa pa la p m) (.inr "many")=some (Vn (p^m)):=rfl
theorem yd3 {fa pa la:Addr} {p m:Nat}:valV (tabD fa pa la p m) (.inr "powers")=some (.ref pa):=rfl
theorem zdL {fa pa la:Addr} {p m:Nat}:valV (tabD fa pa la p m) (.inr "logs")=some (.ref la):=rfl
theorem zed {fa pa la:Addr} {p m:Nat}:valV (tabD fa pa la p m) (.inr "field")=some (.ref fa):=rfl
theorem Tab.get {H:Hp} {tb fa pa la:Addr} {p m t b:Nat} (T:Tab H tb fa pa la p m t b) {x:Str} {v:V} (h:valV (tabD fa pa la p m) (.inr x)=some v):DGet H tb (.str x) (some v):=by
  rw [←h];exact DGet.k (k:=.inr x) T.d
theorem Tab.log {H:Hp} {tb fa pa la:Addr} {p m t b:Nat} (T:Tab H tb fa pa la p m t b) {i:Nat} (h:i<p^m-1):DGet H la (Vn (pw p m t b i)) (some (Vn i)):=by
  have e:valV (Logs p m t b) (.inl ((pw p m t b i:Nat):Int))=some (Vn i):=by
    unfold Logs
    refine zdU _ _ rfl (fun i j hi hj e=>T.good.inj T.prim i j hi hj ?_) i h
    injection e with e
    omega
  rw [←e];exact DGet.k (k:=.inl ((pw p m t b i:Nat):Int)) T.l
theorem zcF (x:Nat):decide (Vn x=V.int 0)=decide (x=0):=decide_eq_decide.mpr ⟨fun e=>by injection e with e;omega,fun e=>by rw [e];rfl⟩
noncomputable def zcb:Sp:=fun vs H Q _=>∃(tb fa pa la:Addr) (p m t b x y:Nat),vs=[.ref tb,Vn x,Vn y]∧Tab H tb fa pa la p m t b∧x<p^m∧y<p^m∧Q (Vn (mul p m t x y)) H
theorem ybF:zak ["_law_table_here","_law_one","_law_other","_law_at"] ["_law_table_here","_law_one","_law_other"] (zac yaR):=⟨rfl,rfl,rfl,by decide +kernel,rfl,by decide +kernel,by decide +kernel⟩
theorem zem (B:Bl mg) (F:Fun K "_law_times" "_law_times" yaR f fd):FnOk P w K mg base CX0 1 f fd ["_law_table_here","_law_one","_law_other"] zcb:=by
  refine F.ok ybF (fun vs H Q E h=>?_) (fun cdv A outer s H vs Q E hr h=>?_)
  · obtain ⟨tb,fa,pa,la,p,m,t,b,x,y,rfl,_⟩:=h;rfl
  obtain ⟨tb,fa,pa,la,p,m,t,b,x,y,rfl,T,hx,hy,q⟩:=h
  have hp:=T.good.hp
  have hm:=T.good.hm
  refine ⟨_,(@yaa _ _ _ _ _ (@ya0 _ _ _ _ _ _ _ _ (@PW.pt _ _ _ (@ycL _ _ _ _ _ _ _ (@zah _ _ _ _ _ _ _ _ yby (pv 1) zab (yai _)) (@zbG _ _ _ _ (@zah _ _ _ _ _ _ _ _ yby (pv 2) zab (yai _))))) (@zad _ _ _ (@yal _ _ _ _ zab)) zat) (@yaa _ _ _ _ _ (@yag _ _ 3 _ _ _ _ ybF.nd rfl (Or.inl rfl) (@zag _ _ _ _ _ _ _ _ zao (@za7 _ _ _ _ _ _ (ycc hr) (@za7 _ _ _ _ _ _ (ycc hr) (pv 0) ya1 (fun _ _=>rfl)) (pv 1) (fun _ _=>rfl)) (@za7 _ _ _ _ _ _ (ycc hr) (@za7 _ _ _ _ _ _ (ycc hr) (pv 0) ya1 (fun _ _=>rfl)) (pv 2) (fun _ _=>rfl))) (by rfl) (by first|exact .inl rfl|exact .inr rfl|assumption)) (@zad _ _ _ (@yal _ _ _ _ (@zan _ _ _ _ _ _ _ yam (@za7 _ _ _ _ _ _ (ycc hr) (pv 0) ya1 (fun _ _=>rfl)) (@zag _ _ _ _ _ _ _ _ zav (pv 3) (@zag _ _ _ _ _ _ _ _ zbA (@za7 _ _ _ _ _ _ (ycc hr) (pv 0) ya1 (fun _ _=>rfl)) zab)) (fun _ _=>rfl)))))),?_⟩
  refine yeL (b1:=decide (x=0)) (b2:=decide (y=0)) (fun Q q=>⟨_,rfl,rfl,_,rfl,?_⟩) (fun Q q=>⟨_,rfl,rfl,_,rfl,?_⟩) ?_
  · rw [zcF];exact q
  · rw [zcF];exact q
  refine ite2 (fun c=>?_) (fun c=>?_)
  · have e:mul p m t x y=0:=by
      simp only [Bool.or_eq_true,decide_eq_true_eq] at c
      rcases c with rfl|rfl
      · exact zero_mul hp hm _
      · exact mul_zero hp hm _
    rw [e] at q
    exact q
  · simp only [Bool.or_eq_true,decide_eq_true_eq,not_or] at c
    obtain ⟨i,hi,ei⟩:=T.prim.all x (by omega) hx
    obtain ⟨j,hj,ej⟩:=T.prim.all y (by omega) hy
    have hQ2:=zbK hp hm
    have hQ:=T.good.hq
    have gi:=T.log hi
    have gj:=T.log hj
    rw [ei] at gi
    rw [ej] at gj
    refine ⟨_,rfl,tb,_,rfl,T.get zdL,_,rfl,la,_,rfl,gi,?_⟩
    refine ⟨_,rfl,tb,_,rfl,T.get zdL,_,rfl,la,_,rfl,gj,_,_,rfl,rfl,?_⟩
    refine ⟨_,rfl,tb,_,rfl,T.get yd3,?_⟩
    refine ⟨_,rfl,_,rfl,tb,_,rfl,T.get ydI,_,_,rfl,rfl,_,_,rfl,rfl,by show (0:Int)<((p^m:Nat):Int)-1;omega,?_⟩
    have ek:((i:Int)+(j:Int))%(((p^m:Nat):Int)-1)=(((i+j)%(p^m-1):Nat):Int):=by
      rw [Int.natCast_emod,Int.natCast_add,Int.natCast_sub (by omega)];rfl
    have hk:(i+j)%(p^m-1)<p^m-1:=Nat.mod_lt _ (by omega)
    refine ⟨pa,_,_,Vn (pw p m t b ((i+j)%(p^m-1))),rfl,rfl,SqL.of T.w,?_,?_⟩
    · show atI _ (((i:Int)+(j:Int))%(((p^m:Nat):Int)-1))=_
      rw [ek]
      exact za8 (by unfold Pws;rw [List.getElem?_map,List.getElem?_map,List.getElem?_range hk];rfl)
    · have e:pw p m t b ((i+j)%(p^m-1))=mul p m t x y:=by
        rw [T.good.pw_mod T.prim.pos T.prim.lt,zb6 hp hm,ei,ej]
      rw [e]
      exact q
end
end My
end
section
-- text: P9
set_option Elab.async false
set_option linter.all false
set_option maxRecDepth 100000
set_option maxHeartbeats 4000000
namespace My
open PySem L2 Dg
theorem ybr {ws:List Nat} {i:Nat} (h:i<ws.length):(ws.map Vn)[i]?=some (Vn (ws.getD i 0)):=by
  rw [List.getElem?_map,List.getElem?_eq_getElem h];simp [List.getD,h]
theorem ze5 {H H':Hp} {l:Addr} {o:HO} (s:Same H H') (h:H l=none):Same H (upd H' l o):=fun b u e=>by rw [yaf (yae e h)];exact s _ _ e
theorem mapI (ns:List Nat):(ns.map fun n:Nat=>(n:Int)).map V.int=ns.map Vn:=by rw [List.map_map];rfl
structure zfy (pu g tb fa pa la:Addr):Prop where
  a1:tb≠pu
  a2:tb≠g
  b1:fa≠pu
  b2:fa≠g
  c1:pa≠pu
  c2:pa≠g
  d1:la≠pu
  d2:la≠g
theorem Tab.x {H H':Hp} {pu g tb fa pa la:Addr} {p m t b:Nat} (T:Tab H tb fa pa la p m t b) (a:zfy pu g tb fa pa la) (s:zar pu g H H'):Tab H' tb fa pa la p m t b :=
  ⟨s _ _ a.a1 a.a2 T.d,s _ _ a.b1 a.b2 T.f,s _ _ a.c1 a.c2 T.w,s _ _ a.d1 a.d2 T.l,T.good,T.prim⟩
section
variable {P:Program} {w:World} {K:PySem.W.Frag} {mg:Str→Option Value} {base:Heap} {f:Addr} {fd:FuncData}
end
end My
end
section
-- text: PA
set_option Elab.async false
set_option linter.all false
set_option maxRecDepth 100000
set_option maxHeartbeats 4000000
namespace My
open PySem L2 Dg
section
variable {p m t:Nat} (hp:2≤p) (hm:1≤m)
include hp hm
end
section
variable {P:Program} {w:World} {K:PySem.W.Frag} {mg:Str→Option Value} {base:Heap} {f:Addr} {fd:FuncData}
end
end My
end
section
-- text: PB
set_option Elab.async false
set_option linter.all false
set_option maxRecDepth 100000
set_option maxHeartbeats 4000000
namespace My
open PySem L2 Dg
section
variable {p m t:Nat} (hp:2≤p) (hm:1≤m)
include hp hm
end
section
variable {P:Program} {w:World} {K:PySem.W.Frag} {mg:Str→Option Value} {base:Heap} {f:Addr} {fd:FuncData}
end
end My
end
section
-- text: PC
set_option Elab.async false
set_option linter.all false
set_option maxRecDepth 100000
set_option maxHeartbeats 4000000
namespace My
open PySem L2 Dg
section
variable {P:Program} {w:World} {K:PySem.W.Frag} {mg:Str→Option Value} {base:Heap} {f:Addr} {fd:FuncData}
end
end My
end
section
-- text: PD
set_option Elab.async false
set_option linter.all false
set_option maxRecDepth 100000
set_option maxHeartbeats 4000000
namespace My
open PySem L2 Dg
structure Ord (p m t x n:Nat):Prop where
  pos:1≤n
  one:pw p m t x n=1
  min:∀i,0<i→i<n→pw p m t x i≠1
theorem Ord.le {p m t x n k:Nat} (o:Ord p m t x n) (h0:0<k) (h:pw p m t x k=1):n≤k:=by
  rcases Nat.lt_or_ge k n with h1|h1
  · exact absurd h (o.min k h0 h1)
  · exact h1
theorem Ord.uniq {p m t x n k:Nat} (o:Ord p m t x n) (o':Ord p m t x k):n=k:=Nat.le_antisymm (o.le o'.pos o'.one) (o'.le o.pos o.one)
theorem zbx (x:Nat):decide (Vn x=V.int 1)=decide (x=1):=decide_eq_decide.mpr ⟨fun e=>by injection e with e;omega,fun e=>by rw [e];rfl⟩
section
variable {P:Program} {w:World} {K:PySem.W.Frag} {mg:Str→Option Value} {base:Heap} {f:Addr} {fd:FuncData}
noncomputable def ydR (K:PySem.W.Frag):Sp:=fun vs H Q _=>∃(fa:Addr) (p m t x:Nat),vs=[.ref fa,Vn x]∧Fld K H fa p m t∧Good p m t∧0<x∧x<p^m∧∀n,Ord p m t x n→n≤p^m-1→Q (Vn n) H
theorem za9:zak ["field","one","many","product"] ["field","one"] (zac za5):=⟨rfl,rfl,rfl,by decide +kernel,rfl,by decide +kernel,by decide +kernel⟩
theorem yeR (B:Bl mg) (h_times:Has P w K mg base 3 "times" ["field","one","other"] (ydH K)) (F:Fun K "round_of" "round_of" za5 f fd):FnOk P w K mg base CX0 4 f fd ["field","one"] (ydR K):=by
  refine F.ok za9 (fun vs H Q E h=>?_) (fun cdv A outer s H vs Q E hr h=>?_)
  · obtain ⟨fa,p,m,t,x,rfl,_⟩:=h;rfl
  obtain ⟨fa,p,m,t,x,rfl,hF,G,h0,hx,q⟩:=h
  have hp:=G.hp
  have hm:=G.hm
  have hQ:=G.hq
  have hQ2:=zbK hp hm
  refine ⟨_,(@yaa _ _ _ _ _ (@yag _ _ 2 _ _ _ _ za9.nd rfl (Or.inl rfl) zab (by rfl) (by first|exact .inl rfl|exact .inr rfl|assumption)) (@yaa _ _ _ _ _ (@yag _ _ 3 _ _ _ _ za9.nd rfl (Or.inl rfl) (pv 1) (by rfl) (by first|exact .inl rfl|exact .inr rfl|assumption)) (@yaa _ _ _ _ _ (@yax _ _ _ _ _ _ PassesOwn.never (@zah _ _ _ _ _ _ _ _ yc2 (pv 3) zab (yai _)) (@yaa _ _ _ _ _ (@yag _ _ 3 _ _ _ _ za9.nd rfl (Or.inl rfl) (@zae _ _ _ _ _ _ _ _ _ _ _ h_times hr (by decide) rfl (@zaa _ _ _ _ _ (pv 0) (@zaa _ _ _ _ _ (pv 3) (@zaa _ _ _ _ _ (pv 1) yab (by rfl)) (by rfl)) (by rfl)) (by decide) (by rfl) (by rfl)) (by rfl) (by first|exact .inl rfl|exact .inr rfl|assumption)) (@zad _ _ _ (@zbn _ _ 2 _ _ _ _ _ _ za9.nd rfl (Or.inl rfl) zab yb1 (by first|exact .inl rfl|exact .inr rfl|assumption))))) (@zad _ _ _ (@yal _ _ _ _ (pv 2)))))),?_⟩
  refine ⟨_,rfl,?_⟩
  refine zax (fun σ H'=>H'=H∧∃k,1≤k∧k≤p^m-1∧σ=[some (.ref fa),some (Vn x),some (Vn k),some (Vn (pw p m t x k))]∧∀i,0<i→i<k→pw p m t x i≠1) (fun σ _=>p^m-mI σ 2) ⟨rfl,1,by omega,by omega,by rw [ydG hp hm hx];rfl,fun i h1 h2=>by omega⟩ ?_
  rintro σ H' ⟨rfl,k,hk1,hk2,rfl,hne⟩
  refine ⟨_,rfl,rfl,_,rfl,?_⟩
  rw [zbx]
  refine ite2 (fun c=>?_) (fun c=>?_)
  · have hk:pw p m t x k≠1:=by
      intro e
      rw [decide_eq_true e] at c
      exact absurd c (by decide)
    have hk3:k<p^m-1:=by
      rcases Nat.lt_or_ge k (p^m-1) with h|h
      · exact h
      · have:k=p^m-1:=by omega
        rw [this] at hk
        exact absurd (G.fermat h0 hx) hk
    refine ⟨fun σ' H''=>H''=H'∧σ'=[some (.ref fa),some (Vn x),some (Vn (k+1)),some (Vn (pw p m t x (k+1)))],?_,?_⟩
    · rintro σ' H'' ⟨rfl,rfl⟩
      refine ⟨_,?_,rfl,rfl,k+1,by omega,by omega,rfl,fun i h1 h2=>?_⟩
      · show p^m-(k+1)<p^m-k;omega
      · rcases Nat.lt_or_ge i k with h|h
        · exact hne i h1 h
        · rw [show i=k by omega];exact hk
    · refine ⟨_,rfl,_,rfl,_,rfl,fa,p,m,t,pw p m t x k,x,rfl,hF,hp,hm,hQ,G.top,ycP hp hm _ _,hx,fun r br h1=>?_⟩
      cases yeF hp hm br h1
      exact ⟨_,rfl,_,_,rfl,rfl,rfl,rfl⟩
  · have hk:pw p m t x k=1:=by
      rcases Nat.decEq (pw p m t x k) 1 with h|h
      · exact absurd (by rw [decide_eq_false h];rfl) c
      · exact h
    exact ⟨_,rfl,q k ⟨hk1,hk,hne⟩ hk2⟩
noncomputable def zbJ (K:PySem.W.Frag):Sp:=fun vs H Q _=>∃(wa fa:Addr) (p m t few x:Nat) (mv:V),vs=[.ref wa]∧SqT K H wa [.ref fa,Vn few,Vn x,mv]∧Fld K H fa p m t∧Good p m t∧0<x∧x<p^m∧∀n,Ord p m t x n→n≤p^m-1→Q (Vn n) H
theorem yd6:zak ["wheel"] ["wheel"] (zac ybw):=⟨rfl,rfl,rfl,by decide +kernel,rfl,by decide +kernel,by decide +kernel⟩
theorem zec (B:Bl mg) (h_round_of:Has P w K mg base 4 "round_of" ["field","one"] (ydR K)) (F:Fun K "length" "length" ybw f fd):FnOk P w K mg base CX0 5 f fd ["wheel"] (zbJ K):=by
  refine F.ok yd6 (fun vs H Q E h=>?_) (fun cdv A outer s H vs Q E hr h=>?_)
  · obtain ⟨wa,fa,p,m,t,few,x,mv,rfl,_⟩:=h;rfl
  obtain ⟨wa,fa,p,m,t,few,x,mv,rfl,hw,hF,G,h0,hx,q⟩:=h
  refine ⟨_,(@zad _ _ _ (@yal _ _ _ _ (@zae _ _ _ _ _ _ _ _ _ _ _ h_round_of hr (by decide) rfl (@zaa _ _ _ _ _ (@zan _ _ _ _ _ _ _ yaw (pv 0) zab (fun _ _=>rfl)) (@zaa _ _ _ _ _ (@zan _ _ _ _ _ _ _ yaw (pv 0) zab (fun _ _=>rfl)) yab (by rfl)) (by rfl)) (by decide) (by rfl) (by rfl)))),?_⟩
  refine ⟨_,rfl,wa,_,_,_,rfl,rfl,hw,rfl,?_⟩
  refine ⟨_,rfl,wa,_,_,_,rfl,rfl,hw,rfl,?_⟩
  exact ⟨fa,p,m,t,x,rfl,hF,G,h0,hx,q⟩
noncomputable def yc6:Sp:=fun vs H Q _=>∃(tb fa pa la:Addr) (p m t b x:Nat),vs=[.ref tb,Vn x]∧Tab H tb fa pa la p m t b∧0<x∧x<p^m∧∀n,Ord p m t x n→n≤p^m-1→Q (Vn n) H
theorem zbj:zak ["_law_table_here","_law_one","_law_many","_law_thing"] ["_law_table_here","_law_one"] (zac zaS):=⟨rfl,rfl,rfl,by decide +kernel,rfl,by decide +kernel,by decide +kernel⟩
theorem yeA (B:Bl mg) (h__law_times:Has P w K mg base 1 "_law_times" ["_law_table_here","_law_one","_law_other"] zcb) (F:Fun K "_law_round" "_law_round" zaS f fd):FnOk P w K mg base CX0 2 f fd ["_law_table_here","_law_one"] yc6:=by
  refine F.ok zbj (fun vs H Q E h=>?_) (fun cdv A outer s H vs Q E hr h=>?_)
  · obtain ⟨tb,fa,pa,la,p,m,t,b,x,rfl,_⟩:=h;rfl
  obtain ⟨tb,fa,pa,la,p,m,t,b,x,rfl,T,h0,hx,q⟩:=h
  have G:=T.good
  have hp:=G.hp
  have hm:=G.hm
  have hQ:=G.hq
  have hQ2:=zbK hp hm
  refine ⟨_,(@yaa _ _ _ _ _ (@zbU _ _ 2 3 _ _ _ _ _ _ _ _ _ _ _ rfl zbj.nd rfl rfl (by decide) rfl rfl (@zaa _ _ _ _ _ zab (@zaa _ _ _ _ _ (pv 1) yab (by rfl)) (by rfl)) rfl (by rfl)) (@yaa _ _ _ _ _ (@yax _ _ _ _ _ _ PassesOwn.never (@zah _ _ _ _ _ _ _ _ yc2 (pv 3) zab (yai _)) (@zad _ _ _ (@zbU _ _ 2 3 _ _ _ _ _ _ _ _ _ _ _ rfl zbj.nd rfl rfl (by decide) rfl rfl (@zaa _ _ _ _ _ (@zag _ _ _ _ _ _ _ _ zao (pv 2) zab) (@zaa _ _ _ _ _ (@zae _ _ _ _ _ _ _ _ _ _ _ h__law_times hr (by decide) rfl (@zaa _ _ _ _ _ (pv 0) (@zaa _ _ _ _ _ (pv 3) (@zaa _ _ _ _ _ (pv 1) yab (by rfl)) (by rfl)) (by rfl)) (by decide) (by rfl) (by rfl)) yab (by rfl)) (by rfl)) rfl (by rfl)))) (@zad _ _ _ (@yal _ _ _ _ (pv 2))))),?_⟩
  refine ⟨_,rfl,_,_,rfl,?_⟩
  refine zax (fun σ H'=>H'=H∧∃k,1≤k∧k≤p^m-1∧σ=[some (.ref tb),some (Vn x),some (Vn k),some (Vn (pw p m t x k))]∧∀i,0<i→i<k→pw p m t x i≠1) (fun σ _=>p^m-mI σ 2) ⟨rfl,1,by omega,by omega,by rw [ydG hp hm hx];rfl,fun i h1 h2=>by omega⟩ ?_
  rintro σ H' ⟨rfl,k,hk1,hk2,rfl,hne⟩
  refine ⟨_,rfl,rfl,_,rfl,?_⟩
  rw [zbx]
  refine ite2 (fun c=>?_) (fun c=>?_)
  · have hk:pw p m t x k≠1:=by
      intro e
      rw [decide_eq_true e] at c
      exact absurd c (by decide)
    have hk3:k<p^m-1:=by
      rcases Nat.lt_or_ge k (p^m-1) with h|h
      · exact h
      · have:k=p^m-1:=by omega
        rw [this] at hk
        exact absurd (G.fermat h0 hx) hk
    refine ⟨fun σ' H''=>H''=H'∧σ'=[some (.ref tb),some (Vn x),some (Vn (k+1)),some (Vn (pw p m t x (k+1)))],?_,?_⟩
    · rintro σ' H'' ⟨rfl,rfl⟩
      refine ⟨_,?_,rfl,rfl,k+1,by omega,by omega,rfl,fun i h1 h2=>?_⟩
      · show p^m-(k+1)<p^m-k;omega
      · rcases Nat.lt_or_ge i k with h|h
        · exact hne i h1 h
        · rw [show i=k by omega];exact hk
    · refine ⟨_,rfl,_,_,rfl,rfl,_,rfl,_,rfl,_,rfl,tb,fa,pa,la,p,m,t,b,pw p m t x k,x,rfl,T,ycP hp hm _ _,hx,?_⟩
      exact ⟨_,_,rfl,rfl,rfl⟩
  · have hk:pw p m t x k=1:=by
      rcases Nat.decEq (pw p m t x k) 1 with h|h
      · exact absurd (by rw [decide_eq_false h];rfl) c
      · exact h
    exact ⟨_,rfl,q k ⟨hk1,hk,hne⟩ hk2⟩
noncomputable def Pwn (p m t x n:Nat):List Nat:=(List.range n).map (pw p m t x)
theorem zb0 (p m t x n:Nat):(Pwn p m t x n).length=n:=by simp [Pwn]
theorem yfF {p m t x n i:Nat} (h:i<n):(Pwn p m t x n).getD i 0=pw p m t x i:=by
  unfold Pwn
  rw [List.getD_eq_getElem?_getD,List.getElem?_map,List.getElem?_range h];rfl
theorem zdA {xs:List V} {v:V} (h:xs[xs.length-1]?=some v):atI xs (-1)=some v:=by
  have hl:0<xs.length:=by
    have:=(List.getElem?_eq_some_iff.mp h).1;omega
  unfold atI ixN
  rw [if_neg (by decide),if_pos (by omega)]
  show (some _).bind _=_
  rw [Option.bind_some,←h]
  congr 1
  omega
noncomputable def ycU:Sp:=fun vs H Q _=>∃(tb fa pa la:Addr) (p m t b x:Nat),vs=[.ref tb,Vn x]∧Tab H tb fa pa la p m t b∧0<x∧x<p^m∧∀n r H',Ord p m t x n→n≤p^m-1→Same H H'→H r=none→H' r=some (.lst ((Pwn p m t x n).map Vn))→Q (.ref r) H'
theorem zbL:zak ["_law_table_here","_law_root","_law_found"] ["_law_table_here","_law_root"] (zac zaQ):=⟨rfl,rfl,rfl,by decide +kernel,rfl,by decide +kernel,by decide +kernel⟩
theorem zeA (B:Bl mg) (h__law_times:Has P w K mg base 1 "_law_times" ["_law_table_here","_law_one","_law_other"] zcb) (F:Fun K "_law_roots" "_law_roots" zaQ f fd):FnOk P w K mg base CX0 2 f fd ["_law_table_here","_law_root"] ycU:=by
  refine F.ok zbL (fun vs H Q E h=>?_) (fun cdv A outer s H vs Q E hr h=>?_)
  · obtain ⟨tb,fa,pa,la,p,m,t,b,x,rfl,_⟩:=h;rfl
  obtain ⟨tb,fa,pa,la,p,m,t,b,x,rfl,T,h0,hx,q⟩:=h
  have G:=T.good
  have hp:=G.hp
  have hm:=G.hm
  have hQ:=G.hq
  have hQ2:=zbK hp hm
  refine ⟨_,(@yaa _ _ _ _ _ (@yag _ _ 2 _ _ _ _ zbL.nd rfl (Or.inl rfl) (@zaZ _ _ _ _ (@zaa _ _ _ _ _ zab yab (by rfl))) (by rfl) (by first|exact .inl rfl|exact .inr rfl|assumption)) (@yaa _ _ _ _ _ (@yax _ _ _ _ _ _ PassesOwn.never (@zah _ _ _ _ _ _ _ _ yc2 (@zae _ _ _ _ _ _ _ _ _ _ _ h__law_times hr (by decide) rfl (@zaa _ _ _ _ _ (pv 0) (@zaa _ _ _ _ _ (@zan _ _ _ _ _ _ _ yam (pv 2) (@zcc _ _ _ _ _ _ zbu zab) (fun _ _=>rfl)) (@zaa _ _ _ _ _ (pv 1) yab (by rfl)) (by rfl)) (by rfl)) (by decide) (by rfl) (by rfl)) zab (yai _)) (@zad _ _ _ (@zbp _ _ _ _ (@ydr _ _ _ _ _ _ _ _ _ _ _ _ PySem.F.plainAttrs_list PySem.F.slot_list_append PySem.F.type_list_append ybf (pv 2) (@zaa _ _ _ _ _ (@zae _ _ _ _ _ _ _ _ _ _ _ h__law_times hr (by decide) rfl (@zaa _ _ _ _ _ (pv 0) (@zaa _ _ _ _ _ (@zan _ _ _ _ _ _ _ yam (pv 2) (@zcc _ _ _ _ _ _ zbu zab) (fun _ _=>rfl)) (@zaa _ _ _ _ _ (pv 1) yab (by rfl)) (by rfl)) (by rfl)) (by decide) (by rfl) (by rfl)) yab (by rfl)) (by rfl) (by rfl) (by rfl) (by rfl) (by rfl)) (by rfl)))) (@zad _ _ _ (@yal _ _ _ _ (pv 2))))),?_⟩
  refine ⟨szl 1,fun l hl=>?_⟩
  refine zax (fun σ H'=>Same H H'∧∃k,1≤k∧k≤p^m-1∧H' l=some (.lst ((Pwn p m t x k).map Vn))∧σ=[some (.ref tb),some (Vn x),some (.ref l)]∧∀i,0<i→i<k→pw p m t x i≠1) (fun _ H'=>p^m-zbX H' l) ⟨yad hl _,1,by omega,by omega,yac,rfl,fun i h1 h2=>by omega⟩ ?_
  rintro σ H' ⟨sm,k,hk1,hk2,el,rfl,hne⟩
  have hlen:zbX H' l=k:=by rw [zbb el];simp [Pwn]
  have T':=T.same sm
  have hlast:atI ((Pwn p m t x k).map Vn) (-1)=some (Vn (pw p m t x (k-1))):=zdA (by rw [List.length_map,zb0,ybr (by rw [zb0];omega),yfF (by omega)])
  have hstep:mul p m t (pw p m t x (k-1)) x=pw p m t x k:=by
    obtain ⟨j,rfl⟩:∃j,k=j+1:=⟨k-1,by omega⟩
    rfl
  refine ⟨_,rfl,_,rfl,_,rfl,l,_,_,_,rfl,rfl,SqL.of el,hlast,?_⟩
  refine ⟨_,rfl,tb,fa,pa,la,p,m,t,b,pw p m t x (k-1),x,rfl,T',ycP hp hm _ _,hx,?_⟩
  rw [hstep]
  refine ⟨rfl,_,rfl,?_⟩
  rw [zbx]
  refine ite2 (fun c=>?_) (fun c=>?_)
  · have hk:pw p m t x k≠1:=by
      intro e
      rw [decide_eq_true e] at c
      exact absurd c (by decide)
    have hk3:k<p^m-1:=by
      rcases Nat.lt_or_ge k (p^m-1) with h|h
      · exact h
      · have:k=p^m-1:=by omega
        rw [this] at hk
        exact absurd (G.fermat h0 hx) hk
    refine ⟨fun σ' H''=>Same H H''∧σ'=[some (.ref tb),some (Vn x),some (.ref l)]∧H'' l=some (.lst ((Pwn p m t x (k+1)).map Vn)),?_,?_⟩
    · rintro σ' H'' ⟨a1,rfl,a3⟩
      have hl2:zbX H'' l=k+1:=by rw [zbb a3];simp [Pwn]
      refine ⟨_,?_,rfl,a1,k+1,by omega,by omega,a3,rfl,fun i h1 h2=>?_⟩
      · rw [hl2,hlen];omega
      · rcases Nat.lt_or_ge i k with h|h
        · exact hne i h1 h
        · rw [show i=k by omega];exact hk
    · refine ⟨_,rfl,.inl ⟨rfl,_,SqL.of el⟩,?_⟩
      refine ⟨_,rfl,_,rfl,_,rfl,l,_,_,_,rfl,rfl,SqL.of el,hlast,?_⟩
      refine ⟨_,rfl,tb,fa,pa,la,p,m,t,b,pw p m t x (k-1),x,rfl,T',ycP hp hm _ _,hx,?_⟩
      rw [hstep]
      refine ⟨l,_,_,rfl,rfl,el,by rw [List.length_map,zb0];exact zap (by omega),?_⟩
      have e3:(Pwn p m t x k).map Vn++[Vn (pw p m t x k)]=(Pwn p m t x (k+1)).map Vn:=by
        unfold Pwn;rw [List.range_succ,List.map_append,List.map_append];rfl
      rw [e3]
      exact ⟨ze5 sm hl,rfl,yac⟩
  · have hk:pw p m t x k=1:=by
      rcases Nat.decEq (pw p m t x k) 1 with h|h
      · exact absurd (by rw [decide_eq_false h];rfl) c
      · exact h
    exact ⟨_,rfl,q k l _ ⟨hk1,hk,hne⟩ hk2 sm hl el⟩
end
end My
end
section
-- text: PE
set_option Elab.async false
set_option linter.all false
set_option maxRecDepth 100000
set_option maxHeartbeats 4000000
namespace My
open PySem L2 Dg
local macro_rules | `(tactic| walk_at "rd") => `(tactic| repeat (first | refine ⟨_, rfl, ?_⟩ | refine ⟨_, _, rfl, rfl, ?_⟩))
section
variable {p m t:Nat} (G:Good p m t)
include G
end
section
variable {P:Program} {w:World} {K:PySem.W.Frag} {mg:Str→Option Value} {base:Heap} {f:Addr} {fd:FuncData}
end
end My
end
section
-- text: PF
set_option Elab.async false
set_option linter.all false
set_option maxRecDepth 100000
set_option maxHeartbeats 4000000
namespace My
open PySem L2 Dg
local macro_rules | `(tactic| walk_at "rd") => `(tactic| repeat (first | refine ⟨_, rfl, ?_⟩ | refine ⟨_, _, rfl, rfl, ?_⟩))
section
variable {P:Program} {w:World} {K:PySem.W.Frag} {mg:Str→Option Value} {base:Heap} {f:Addr} {fd:FuncData}
end
end My
end
section
-- text: PJ
set_option Elab.async false
set_option linter.all false
set_option maxRecDepth 100000
set_option maxHeartbeats 4000000
namespace My
open PySem L2 Dg
local macro_rules | `(tactic| walk_at "rd") => `(tactic| repeat (first | refine ⟨_, rfl, ?_⟩ | refine ⟨_, _, rfl, rfl, ?_⟩))
section
variable {p m t:Nat} (G:Good p m t)
include G
theorem Ord.dvd {x n k:Nat} (hx:x<p^m) (o:Ord p m t x n) (h:pw p m t x k=1):k%n=0:=by
  have hp:=G.hp
  have hm:=G.hm
  rcases Nat.eq_zero_or_pos (k%n) with c|c
  · exact c
  · have e:pw p m t x (n*(k/n)+k%n)=1:=by rw [Nat.div_add_mod];exact h
    rw [zb6 hp hm,zda hp hm,o.one,zdQ hp hm,zcx hp hm (ycP hp hm _ _)] at e
    exact absurd e (o.min _ c (Nat.mod_lt _ (by have:=o.pos;omega)))
theorem Ord.round {x n few:Nat} (h0:0<x) (hx:x<p^m) (o:Ord p m t x n) (hf:m%few=0) (hf1:1≤few):(p^few)^(m/few)%n=1%n:=by
  have hp:=G.hp
  have hm:=G.hm
  have h1:=Ord.dvd G hx o (G.fermat h0 hx)
  have hQ:=zbK hp hm
  have e:few*(m/few)=m:=by have:=Nat.div_add_mod m few;rw [hf] at this;omega
  rw [←Nat.pow_mul,e]
  obtain ⟨c,hc⟩:=Nat.dvd_of_mod_eq_zero h1
  rw [show p^m=1+n*c by omega,Nat.add_mul_mod_self_left]
end
section
variable {P:Program} {w:World} {K:PySem.W.Frag} {mg:Str→Option Value} {base:Heap} {f:Addr} {fd:FuncData}
noncomputable def zbi (i n q L:Nat):List Nat:=(List.range L).map fun j=>i*q^j%n
theorem yc3 {i n q L j:Nat} (h:j<L):(zbi i n q L).getD j 0=i*q^j%n:=by unfold zbi;rw [List.getD_eq_getElem?_getD,List.getElem?_map,List.getElem?_range h];rfl
theorem ycY {q e n:Nat} (hr:q^e%n=1%n) (he:1≤e) (i a:Nat):i*q^a*q^(e*a-a)%n=i%n:=by
  have h:a≤e*a:=Nat.le_mul_of_pos_left a he
  rw [Nat.mul_assoc,←Nat.pow_add,show a+(e*a-a)=e*a by omega,Nat.pow_mul,Nat.mul_mod,Nat.pow_mod,hr,←Nat.pow_mod,Nat.one_pow,←Nat.mul_mod,Nat.mul_one]
theorem zd3 {i n q e L:Nat} (hr:q^e%n=1%n) (he:1≤e) (h:∀j,0<j→j<L→i*q^j%n≠i%n):(zbi i n q L).Nodup:=by
  refine zbq _ fun a b ha hb e1=>?_
  have key:∀a b:Nat,a<b→b<L→i*q^a%n=i*q^b%n→False:=fun a b hab hb e1=>by
    refine h (b-a) (by omega) (by omega) ?_
    have e2:=ycY hr he i a
    rw [Nat.mul_mod,e1,←Nat.mul_mod,show i*q^b=i*q^(b-a)*q^a by rw [Nat.mul_assoc,←Nat.pow_add,show b-a+a=b by omega],ycY hr he] at e2
    exact e2
  rcases Nat.lt_trichotomy a b with h1|h1|h1
  · exact (key a b h1 hb e1).elim
  · exact h1
  · exact (key b a h1 ha e1.symm).elim
theorem ze2 {i n q L:Nat} (heq:i*q^L%n=i*q^0%n) (hL:0<L) (j:Nat):i*q^j%n∈zbi i n q L:=by
  induction j with
  | zero=>exact List.mem_map.mpr ⟨0,List.mem_range.mpr hL,rfl⟩
  | succ j ih =>
    obtain ⟨k,hk,ek⟩:=List.mem_map.mp ih
    have hk:=List.mem_range.mp hk
    have e2:i*q^(j+1)%n=i*q^(k+1)%n:=by
      rw [Nat.pow_succ,Nat.pow_succ,←Nat.mul_assoc,←Nat.mul_assoc,Nat.mul_mod,←ek,←Nat.mul_mod]
    rw [e2]
    by_cases c:k+1<L
    · exact List.mem_map.mpr ⟨k+1,List.mem_range.mpr c,rfl⟩
    · rw [show k+1=L by omega,heq]
      exact List.mem_map.mpr ⟨0,List.mem_range.mpr hL,rfl⟩
noncomputable def zcO:Sp:=fun vs H Q _=>∃(i n q e:Nat),vs=[Vn i,Vn n,Vn q]∧0<n∧n≤64∧q≤64∧1≤e∧e≤6∧q^e%n=1%n∧
  ∀r (ns:List Nat) H',Same H H'→H r=none→H' r=some (.lst (ns.map Vn))→0<ns.length→ns.length≤6→(∀x∈ns,x<n)→(∀x∈ns,x*q%n∈ns)→ns.Nodup→(∀x∈ns,∃j,x=i*q^j%n)→(∀j,i*q^j%n∈ns)→Q (.ref r) H'
theorem zbT:zak ["_law_i","_law_n","_law_q","_law_found"] ["_law_i","_law_n","_law_q"] (zac zaV):=⟨rfl,rfl,rfl,by decide +kernel,rfl,by decide +kernel,by decide +kernel⟩
theorem zeP (B:Bl mg) (F:Fun K "_law_ring" "_law_ring" zaV f fd):FnOk P w K mg base CX0 1 f fd ["_law_i","_law_n","_law_q"] zcO:=by
  refine F.ok zbT (fun vs H Q E h=>?_) (fun cdv A outer s H vs Q E hr h=>?_)
  · obtain ⟨i,n,q,e,rfl,_⟩:=h;rfl
  obtain ⟨i,n,q,e,rfl,hn,hn2,hq,he1,he2,hr1,q'⟩:=h
  refine ⟨_,(@yaa _ _ _ _ _ (@yag _ _ 3 _ _ _ _ zbT.nd rfl (Or.inl rfl) (@zaZ _ _ _ _ (@zaa _ _ _ _ _ (@zag _ _ _ _ _ _ _ _ zav (pv 0) (pv 1)) yab (by rfl))) (by rfl) (by first|exact .inl rfl|exact .inr rfl|assumption)) (@yaa _ _ _ _ _ (@yax _ _ _ _ _ _ PassesOwn.never (@zah _ _ _ _ _ _ _ _ yc2 (@zag _ _ _ _ _ _ _ _ zav (@zag _ _ _ _ _ _ _ _ yaL (@zan _ _ _ _ _ _ _ yam (pv 3) (@zcc _ _ _ _ _ _ zbu zab) (fun _ _=>rfl)) (pv 2)) (pv 1)) (@zan _ _ _ _ _ _ _ yam (pv 3) zab (fun _ _=>rfl)) (yai _)) (@zad _ _ _ (@zbp _ _ _ _ (@ydr _ _ _ _ _ _ _ _ _ _ _ _ PySem.F.plainAttrs_list PySem.F.slot_list_append PySem.F.type_list_append ybf (pv 3) (@zaa _ _ _ _ _ (@zag _ _ _ _ _ _ _ _ zav (@zag _ _ _ _ _ _ _ _ yaL (@zan _ _ _ _ _ _ _ yam (pv 3) (@zcc _ _ _ _ _ _ zbu zab) (fun _ _=>rfl)) (pv 2)) (pv 1)) yab (by rfl)) (by rfl) (by rfl) (by rfl) (by rfl) (by rfl)) (by rfl)))) (@zad _ _ _ (@yal _ _ _ _ (pv 3))))),?_⟩
  refine ⟨_,rfl,_,rfl,_,_,rfl,rfl,by show (0:Int)<n;omega,szl 1,fun l hl=>?_⟩
  dsimp only [zas]
  refine zax (fun σ H'=>∃L:Nat,1≤L∧L≤e∧(∀j,0<j→j<L→i*q^j%n≠i%n)∧H'=upd H l (.lst ((zbi i n q L).map Vn))∧σ=[some (Vn i),some (Vn n),some (Vn q),some (.ref l)]) (fun _ H'=>7-zbX H' l) ⟨1,Nat.le_refl _,he1,fun j _ _=>by omega,by simp [zbi];rfl,rfl⟩ ?_
  rintro σ H' ⟨L,h1,h2,hne0,rfl,rfl⟩
  have el:upd H l (.lst ((zbi i n q L).map Vn)) l=some (.lst ((zbi i n q L).map Vn)):=yac
  have ll:(zbi i n q L).length=L:=by simp [zbi]
  have hlast:atI ((zbi i n q L).map Vn) (-1)=some (Vn (i*q^(L-1)%n)):=zdA (by rw [List.length_map,ll,ybr (by omega),yc3 (by omega)])
  have hfirst:atI ((zbi i n q L).map Vn) 0=some (Vn (i*q^0%n)):=za8 (j:=0) (by rw [ybr (by omega),yc3 (by omega)])
  have hml:i*q^(L-1)%n<n:=Nat.mod_lt _ hn
  refine ⟨_,rfl,_,rfl,l,_,_,_,rfl,rfl,SqL.of el,hlast,_,rfl,_,_,rfl,rfl,.inl ⟨by show -(2^64:Int)<((i*q^(L-1)%n:Nat):Int);omega,by show ((i*q^(L-1)%n:Nat):Int)<2^64;omega⟩,?_⟩
  refine ⟨_,rfl,_,_,rfl,rfl,by show (0:Int)<n;omega,?_⟩
  refine ⟨_,rfl,l,_,_,_,rfl,rfl,SqL.of el,hfirst,rfl,_,rfl,?_⟩
  have en:(i*q^(L-1)%n)*q%n=i*q^L%n:=by
    rw [Nat.mod_mul_mod,Nat.mul_assoc,←Nat.pow_succ,show (L-1).succ=L by omega]
  have e0:i*q^0%n=i%n:=by rw [Nat.pow_zero,Nat.mul_one]
  refine ite2 (fun c=>?_) (fun c=>?_)
  · have hne:i*q^L%n≠i%n:=by
      intro h
      have:(V.int ((((i*q^(L-1)%n:Nat):Int)*(q:Int))%(n:Int)))=Vn (i*q^0%n):=by
        show V.int _=V.int _
        congr 1
        rw [e0,←h,←en];rfl
      rw [decide_eq_true this] at c
      exact absurd c (by decide)
    have hL:L<e:=by
      rcases Nat.lt_or_ge L e with h|h
      · exact h
      · have hle:L=e:=by omega
        rw [hle] at hne
        refine absurd ?_ hne
        rw [Nat.mul_mod,hr1,←Nat.mul_mod,Nat.mul_one]
    refine ⟨fun σ' H'=>H'=upd H l (.lst ((zbi i n q (L+1)).map Vn))∧σ'=[some (Vn i),some (Vn n),some (Vn q),some (.ref l)],?_,?_⟩
    · rintro σ' H' ⟨rfl,rfl⟩
      refine ⟨_,?_,rfl,L+1,by omega,by omega,fun j j0 j1=>?_,rfl,rfl⟩
      case refine_2 =>
        rcases Nat.lt_or_ge j L with h|h
        · exact hne0 j j0 h
        · rw [show j=L by omega];exact hne
      rw [zbb yac,zbb yac,List.length_map,List.length_map,ll,show (zbi i n q (L+1)).length=L+1 by simp [zbi]]
      omega
    · refine ⟨_,rfl,.inl ⟨rfl,_,SqL.of el⟩,?_⟩
      refine ⟨_,rfl,_,rfl,l,_,_,_,rfl,rfl,SqL.of el,hlast,_,rfl,_,_,rfl,rfl,.inl ⟨by show -(2^64:Int)<((i*q^(L-1)%n:Nat):Int);omega,by show ((i*q^(L-1)%n:Nat):Int)<2^64;omega⟩,?_⟩
      refine ⟨_,rfl,_,_,rfl,rfl,by show (0:Int)<n;omega,?_⟩
      refine ⟨l,_,_,rfl,rfl,el,by rw [List.length_map,ll];exact zap (by omega),?_,rfl⟩
      rw [ydh]
      congr 2
      have e1:zbi i n q (L+1)=zbi i n q L++[i*q^L%n]:=by unfold zbi;rw [List.range_succ,List.map_append];rfl
      rw [e1,List.map_append,←en];rfl
  · have heq:i*q^L%n=i*q^0%n:=by
      have h:decide (V.int ((((i*q^(L-1)%n:Nat):Int)*(q:Int))%(n:Int))=Vn (i*q^0%n))=true:=by
        rcases hb:decide (V.int ((((i*q^(L-1)%n:Nat):Int)*(q:Int))%(n:Int))=Vn (i*q^0%n)) with _|_
        · exact absurd (show (!decide (V.int ((((i*q^(L-1)%n:Nat):Int)*(q:Int))%(n:Int))=Vn (i*q^0%n)))=true by rw [hb];rfl) c
        · rfl
      have h2:=V.int.inj (of_decide_eq_true h)
      rw [←en]
      exact Int.ofNat.inj h2
    refine ⟨_,rfl,q' l (zbi i n q L) _ (yad hl _) hl el (by rw [ll];omega) (by rw [ll];omega) (fun x hx=>?_) (fun x hx=>?_) ?_ (fun x hx=>?_) (ze2 heq (by omega))⟩
    rotate_left 2
    · refine zd3 hr1 (by omega) hne0
    · obtain ⟨j,_,rfl⟩:=List.mem_map.mp hx
      exact ⟨j,rfl⟩
    · obtain ⟨j,_,rfl⟩:=List.mem_map.mp hx
      exact Nat.mod_lt _ hn
    · obtain ⟨j,hj,rfl⟩:=List.mem_map.mp hx
      have hj:=List.mem_range.mp hj
      have e2:i*q^j%n*q%n=i*q^(j+1)%n:=by rw [Nat.mod_mul_mod,Nat.mul_assoc,←Nat.pow_succ]
      rw [e2]
      by_cases cj:j+1<L
      · exact List.mem_map.mpr ⟨j+1,List.mem_range.mpr cj,rfl⟩
      · rw [show j+1=L by omega,heq]
        exact List.mem_map.mpr ⟨0,List.mem_range.mpr (by omega),rfl⟩
theorem yeZ (a b:Nat):decide (V.int ((a:Int)%(b:Int))=V.int 0)=decide (a%b=0) :=
  decide_eq_decide.mpr ⟨fun e=>Int.ofNat.inj (show Int.ofNat (a%b)=Int.ofNat 0 from V.int.inj e),fun e=>congrArg V.int (show Int.ofNat (a%b)=Int.ofNat 0 from congrArg Int.ofNat e)⟩
structure Whl (p m t few root n:Nat) (marks:List Nat):Prop where
  few1:1≤few
  fewm:m%few=0
  r0:0<root
  rq:root<p^m
  ord:Ord p m t root n
  nq:n≤p^m-1
  asc:marks.Pairwise (· < ·)
  lt:∀x∈marks,x<n
  closed:∀x∈marks,x*p^few%n∈marks
structure WhAt (H:Hp) (wh fa mk:Addr) (few root:Nat) (marks:List Nat):Prop where
  w:H wh=some (.tup [.ref fa,Vn few,Vn root,.ref mk])
  k:H mk=some (.tup (marks.map Vn))
theorem WhAt.same {H H':Hp} {wh fa mk:Addr} {few root:Nat} {marks:List Nat} (h:WhAt H wh fa mk few root marks) (s:Same H H'):WhAt H' wh fa mk few root marks:=⟨s _ _ h.w,s _ _ h.k⟩
noncomputable def zbd (p m t:Nat) (H:Hp) (a:Addr):Prop:=∃n x:Nat,H a=some (.tup [Vn n,Vn x])∧Ord p m t x n∧n≤p^m-1∧0<x∧x<p^m
theorem zbd.same {p m t:Nat} {H H':Hp} {a:Addr} (h:zbd p m t H a) (s:Same H H'):zbd p m t H' a:=by obtain ⟨n,x,h1,r⟩:=h;exact ⟨n,x,s _ _ h1,r⟩
theorem Pu.tup_ne {H:Hp} {pu g a:Addr} {xs:List V} (h:Pu H pu g) (e:H a=some (.tup xs)):a≠pu∧a≠g:=by
  obtain ⟨ns,s,t,h1,h2⟩:=h
  exact ⟨fun q=>(by rw [q,h1] at e;cases e),fun q=>(by rw [q,h2] at e;cases e)⟩
noncomputable def pn (H:Hp) (a:Addr):Nat:=match H a with
  | some (.tup (.int n::_))=>n.toNat
  | _=>0
theorem zbQ {H:Hp} {a:Addr} {n x:Nat} (h:H a=some (.tup [Vn n,Vn x])):pn H a=n:=by unfold pn;rw [h];rfl
theorem zbr {α:Type} {xs:List α} {k:Nat} {a:α} (h:xs[k]?=some a):xs.take (k+1)=xs.take k++[a]:=by
  obtain ⟨hk,e⟩:=List.getElem?_eq_some_iff.mp h
  rw [List.take_succ_eq_append_getElem hk,e]
theorem zdk {ts:List Addr} {k:Nat} {z:V} (h:(ts.map V.ref)[k]?=some z):∃a,ts[k]?=some a∧z = .ref a:=by
  rw [List.getElem?_map] at h
  rcases e:ts[k]? with _|a
  · rw [e] at h;cases h
  · rw [e] at h;exact ⟨a,rfl,(Option.some.inj h).symm⟩
noncomputable def zcU:Sp:=fun vs H Q _=>∃(pu g:Addr) (most:Nat),vs=[.ref pu,Vn most]∧Pu H pu g∧1≤most∧
  ∀(r tb fa pa la wh mk:Addr) (p m t b few root n:Nat) (marks:List Nat) H',H' r=some (.tup [.ref tb,.ref wh])→Tab H' tb fa pa la p m t b→zfy pu g tb fa pa la→WhAt H' wh fa mk few root marks→(wh≠pu∧wh≠g)→(mk≠pu∧mk≠g)→(r≠pu∧r≠g)→Whl p m t few root n marks→n≤most→Pu H' pu g→zar pu g H H'→Q (.ref r) H'
theorem yah:zak ["_law_purse_here","_law_most","_law_way","_law_far","_law_table_here","_law_fews","_law_few","_law_q","_law_rounds","_law_greatest","_law_n","_law_root","_law_marks","_law_first","_law_many","_law_k"] ["_law_purse_here","_law_most"] (zac yaq):=⟨rfl,rfl,rfl,by decide +kernel,rfl,by decide +kernel,by decide +kernel⟩
theorem zeq (B:Bl mg) (h__law_pick:Has P w K mg base 1 "_law_pick" ["_law_purse_here","_law_many"] ycA) (h__law_field:Has P w K mg base 4 "_law_field" ["_law_purse_here"] ydL) (h__law_table:Has P w K mg base 3 "_law_table" ["_law_field_here"] zdD) (h__law_raised:Has P w K mg base 1 "_law_raised" ["_law_one","_law_many"] zau)
    (h__law_round:Has P w K mg base 2 "_law_round" ["_law_table_here","_law_one"] yc6) (h__law_ring:Has P w K mg base 1 "_law_ring" ["_law_i","_law_n","_law_q"] zcO) (F:Fun K "_law_wheel" "_law_wheel" yaq f fd):FnOk P w K mg base CX0 5 f fd ["_law_purse_here","_law_most"] zcU:=by
  refine F.ok yah (fun vs H Q E h=>?_) (fun cdv A outer s H vs Q E hr h=>?_)
  · obtain ⟨pu,g,most,rfl,_⟩:=h;rfl
  obtain ⟨pu,g,most,rfl,hP,hmost,q⟩:=h
  refine ⟨_,(@yaa _ _ _ _ _ (@zbU _ _ 2 3 _ _ _ _ _ _ _ _ _ _ _ rfl yah.nd rfl rfl (by decide) rfl rfl (@zaa _ _ _ _ _ (@zae _ _ _ _ _ _ _ _ _ _ _ h__law_pick hr (by decide) rfl (@zaa _ _ _ _ _ (pv 0) (@zaa _ _ _ _ _ zab yab (by rfl)) (by rfl)) (by decide) (by rfl) (by rfl)) (@zaa _ _ _ _ _ (@zae _ _ _ _ _ _ _ _ _ _ _ h__law_pick hr (by decide) rfl (@zaa _ _ _ _ _ (pv 0) (@zaa _ _ _ _ _ zab yab (by rfl)) (by rfl)) (by decide) (by rfl) (by rfl)) yab (by rfl)) (by rfl)) rfl (by rfl)) (@yaa _ _ _ _ _ (@yag _ _ 4 _ _ _ _ yah.nd rfl (Or.inr rfl) (@zae _ _ _ _ _ _ _ _ _ _ _ h__law_table hr (by decide) rfl (@zaa _ _ _ _ _ (@zae _ _ _ _ _ _ _ _ _ _ _ h__law_field hr (by decide) rfl (@zaa _ _ _ _ _ (pv 0) yab (by rfl)) (by decide) (by rfl) (by rfl)) yab (by rfl)) (by decide) (by rfl) (by rfl)) (by rfl) (by first|exact .inl rfl|exact .inr rfl|assumption)) (@yaa _ _ _ _ _ (@ybB _ 5 _ _ _ _ _ _ _ _ _ ["_law_few"] ["_law_table_here"] [4] _ _ _ _ yah.nd rfl (Or.inl rfl) (id (α:=CSc ["_law_purse_here","_law_most","_law_way","_law_far","_law_table_here","_law_fews","_law_few","_law_q","_law_rounds","_law_greatest","_law_n","_law_root","_law_marks","_law_first","_law_many","_law_k"] (zac yaq) ["_law_few"] ["_law_table_here"] [4] _) ⟨by rfl,by decide +kernel,by decide +kernel,by decide +kernel,by decide +kernel,by rfl,by decide +kernel⟩) rfl (@ya7 _ _ _ _ _ _ _ rfl (B "range" (by decide)) (@zaa _ _ _ _ _ zab (@zaa _ _ _ _ _ (@zag _ _ _ _ _ _ _ _ zao (@za7 _ _ _ _ _ _ (ycc hr) (pv 4) ya1 (fun _ _=>rfl)) zab) yab (by rfl)) (by rfl)) (by rfl) (by rfl)) (fun cl C fp s H=>(@zaf _ _ 0 _ (by show List.Nodup (["_law_few","_law_table_here"]:List Str);decide +kernel) rfl (Or.inl rfl) (by first|exact .inl rfl|exact .inr rfl|assumption))) (fun _ _ _ _ _=>(@ybv _ _ _ (@zah _ _ _ _ _ _ _ _ yby (@zag _ _ _ _ _ _ _ _ zav (@za7 _ _ _ _ _ _ (ycc hr) (pv 1) ya1 (fun _ _=>rfl)) (pv 0)) zab (yai _)))) (fun _ _ _ _ _=>(pv 0)) (by rfl) (by intro _;rfl) (by first|exact .inl rfl|exact .inr rfl|assumption)) (@yaa _ _ _ _ _ (@yag _ _ 6 _ _ _ _ yah.nd rfl (Or.inl rfl) (@zan _ _ _ _ _ _ _ yam (pv 5) (@zae _ _ _ _ _ _ _ _ _ _ _ h__law_pick hr (by decide) rfl (@zaa _ _ _ _ _ (pv 0) (@zaa _ _ _ _ _ (@yan _ _ _ _ _ _ _ _ _ yaz rfl (B "len" (by decide)) PySem.boot_len (@zaa _ _ _ _ _ (pv 5) yab (by rfl)) (by decide) (by decide) (by rfl) (by rfl)) yab (by rfl)) (by rfl)) (by decide) (by rfl) (by rfl)) (fun _ _=>rfl)) (by rfl) (by first|exact .inl rfl|exact .inr rfl|assumption)) (@yaa _ _ _ _ _ (@yag _ _ 7 _ _ _ _ yah.nd rfl (Or.inl rfl) (@zae _ _ _ _ _ _ _ _ _ _ _ h__law_raised hr (by decide) rfl (@zaa _ _ _ _ _ (@za7 _ _ _ _ _ _ (ycc hr) (pv 4) ya1 (fun _ _=>rfl)) (@zaa _ _ _ _ _ (pv 6) yab (by rfl)) (by rfl)) (by decide) (by rfl) (by rfl)) (by rfl) (by first|exact .inl rfl|exact .inr rfl|assumption)) (@yaa _ _ _ _ _ (@ybB _ 8 _ _ _ _ _ _ _ _ _ ["_law_one"] ["_law_table_here"] [4] _ _ _ _ yah.nd rfl (Or.inl rfl) (id (α:=CSc ["_law_purse_here","_law_most","_law_way","_law_far","_law_table_here","_law_fews","_law_few","_law_q","_law_rounds","_law_greatest","_law_n","_law_root","_law_marks","_law_first","_law_many","_law_k"] (zac yaq) ["_law_one"] ["_law_table_here"] [4] _) ⟨by rfl,by decide +kernel,by decide +kernel,by decide +kernel,by decide +kernel,by rfl,by decide +kernel⟩) rfl (@ya7 _ _ _ _ _ _ _ rfl (B "range" (by decide)) (@zaa _ _ _ _ _ zab (@zaa _ _ _ _ _ (@za7 _ _ _ _ _ _ (ycc hr) (pv 4) ya1 (fun _ _=>rfl)) yab (by rfl)) (by rfl)) (by rfl) (by rfl)) (fun cl C fp s H=>(@zaf _ _ 0 _ (by show List.Nodup (["_law_one","_law_table_here"]:List Str);decide +kernel) rfl (Or.inl rfl) (by first|exact .inl rfl|exact .inr rfl|assumption))) (fun _ _ _ _ _=>yba) (fun _ _ _ _ _=>(@ybm _ _ _ _ _ (@zaa _ _ _ _ _ (@zae _ _ _ _ _ _ _ _ _ _ _ h__law_round hr (by decide) rfl (@zaa _ _ _ _ _ (pv 1) (@zaa _ _ _ _ _ (pv 0) yab (by rfl)) (by rfl)) (by decide) (by rfl) (by rfl)) (@zaa _ _ _ _ _ (pv 0) yab (by rfl)) (by rfl)))) (by rfl) (by intro _;rfl) (by first|exact .inl rfl|exact .inr rfl|assumption)) (@yaa _ _ _ _ _ (@ybB _ 8 _ _ _ _ _ _ _ _ _ ["_law_pair"] ["_law_most"] [1] _ _ _ _ yah.nd rfl (Or.inl rfl) (id (α:=CSc ["_law_purse_here","_law_most","_law_way","_law_far","_law_table_here","_law_fews","_law_few","_law_q","_law_rounds","_law_greatest","_law_n","_law_root","_law_marks","_law_first","_law_many","_law_k"] (zac yaq) ["_law_pair"] ["_law_most"] [1] _) ⟨by rfl,by decide +kernel,by decide +kernel,by decide +kernel,by decide +kernel,by rfl,by decide +kernel⟩) rfl (@za0 _ _ _ _ (pv 8)) (fun cl C fp s H=>(@zaf _ _ 0 _ (by show List.Nodup (["_law_pair","_law_most"]:List Str);decide +kernel) rfl (Or.inl rfl) (by first|exact .inl rfl|exact .inr rfl|assumption))) (fun _ _ _ _ _=>(@ybv _ _ _ (@zah _ _ _ _ _ _ _ _ ybW (@zan _ _ _ _ _ _ _ (zcH (K:=K) rfl) (pv 0) zab (fun _ _=>rfl)) (pv 1) (yai _)))) (fun _ _ _ _ _=>(pv 0)) (by rfl) (by intro _;rfl) (by first|exact .inl rfl|exact .inr rfl|assumption)) (@yaa _ _ _ _ _ (@yag _ _ 9 _ _ _ _ yah.nd rfl (Or.inr rfl) (@yan _ _ _ _ _ _ _ _ _ (yey rfl) rfl (B "max" (by decide)) ydx (@zaa _ _ _ _ _ (@zbm _ _ _ _ _ _ _ ["_law_pair"] [] [] _ _ _ _ (id (α:=CSc ["_law_purse_here","_law_most","_law_way","_law_far","_law_table_here","_law_fews","_law_few","_law_q","_law_rounds","_law_greatest","_law_n","_law_root","_law_marks","_law_first","_law_many","_law_k"] (zac yaq) ["_law_pair"] [] [] _) ⟨by rfl,by decide +kernel,by decide +kernel,by decide +kernel,by decide +kernel,by rfl,by decide +kernel⟩) rfl (@za0 _ _ _ _ (pv 8)) (fun cl C fp s H=>(@zaf _ _ 0 _ (by show List.Nodup (["_law_pair"]:List Str);decide +kernel) rfl (Or.inl rfl) (by first|exact .inl rfl|exact .inr rfl|assumption))) (fun _ _ _ _ _=>yba) (fun _ _ _ _ _=>(@zan _ _ _ _ _ _ _ (zcH (K:=K) rfl) (pv 0) zab (fun _ _=>rfl))) (by intro _;rfl)) yab (by rfl)) (by decide) (by decide) (by rfl) (by rfl)) (by rfl) (by first|exact .inl rfl|exact .inr rfl|assumption)) (@yaa _ _ _ _ _ (@ya0 _ _ _ _ _ _ _ _ (@zah _ _ _ _ _ _ _ _ zby (pv 3) zab (yai _)) (@zad _ _ _ (@ybB _ 8 _ _ _ _ _ _ _ _ _ ["_law_pair"] ["_law_greatest"] [9] _ _ _ _ yah.nd rfl (Or.inl rfl) (id (α:=CSc ["_law_purse_here","_law_most","_law_way","_law_far","_law_table_here","_law_fews","_law_few","_law_q","_law_rounds","_law_greatest","_law_n","_law_root","_law_marks","_law_first","_law_many","_law_k"] (zac yaq) ["_law_pair"] ["_law_greatest"] [9] _) ⟨by rfl,by decide +kernel,by decide +kernel,by decide +kernel,by decide +kernel,by rfl,by decide +kernel⟩) rfl (@za0 _ _ _ _ (pv 8)) (fun cl C fp s H=>(@zaf _ _ 0 _ (by show List.Nodup (["_law_pair","_law_greatest"]:List Str);decide +kernel) rfl (Or.inl rfl) (by first|exact .inl rfl|exact .inr rfl|assumption))) (fun _ _ _ _ _=>(@ybv _ _ _ (@zah _ _ _ _ _ _ _ _ yby (@zan _ _ _ _ _ _ _ (zcH (K:=K) rfl) (pv 0) zab (fun _ _=>rfl)) (pv 1) (yai _)))) (fun _ _ _ _ _=>(pv 0)) (by rfl) (by intro _;rfl) (by first|exact .inl rfl|exact .inr rfl|assumption))) zat) (@yaa _ _ _ _ _ (@ybn _ _ _ _ _ _ (@zan _ _ _ _ _ _ _ yam (pv 8) (@zae _ _ _ _ _ _ _ _ _ _ _ h__law_pick hr (by decide) rfl (@zaa _ _ _ _ _ (pv 0) (@zaa _ _ _ _ _ (@yan _ _ _ _ _ _ _ _ _ yaz rfl (B "len" (by decide)) PySem.boot_len (@zaa _ _ _ _ _ (pv 8) yab (by rfl)) (by decide) (by decide) (by rfl) (by rfl)) yab (by rfl)) (by rfl)) (by decide) (by rfl) (by rfl)) (fun _ _=>rfl)) (@zbo _ _ _ _ _ _ rfl (@yak _ _ _ _ _ (@zaf _ _ 10 _ yah.nd rfl (Or.inl rfl) (by first|exact .inl rfl|exact .inr rfl|assumption)) (@yak _ _ _ _ _ (@zaf _ _ 11 _ yah.nd rfl (Or.inl rfl) (by first|exact .inl rfl|exact .inr rfl|assumption)) za1 (by rfl)) (by rfl)) (by rfl) (by rfl)) (by rfl) (by rfl) (by rfl)) (@yaa _ _ _ _ _ (@yag _ _ 12 _ _ _ _ yah.nd rfl (Or.inl rfl) (@zaZ _ _ _ _ yab) (by rfl) (by first|exact .inl rfl|exact .inr rfl|assumption)) (@yaa _ _ _ _ _ (@ya0 _ _ _ _ _ _ _ _ (@zah _ _ _ _ _ _ _ _ yby (pv 2) zab (yai _)) (@zad _ _ _ (@yag _ _ 12 _ _ _ _ yah.nd rfl (Or.inl rfl) (@ybG _ _ _ _ _ _ _ _ _ (ycu rfl) rfl (B "list" (by decide)) ycR (@zaa _ _ _ _ _ (@yej _ _ _ _ _ rfl (B "range" (by decide)) (@zaa _ _ _ _ _ (pv 10) yab (by rfl)) (by rfl)) yab (by rfl)) (by decide) (by decide) (by rfl) (by rfl)) (by rfl) (by first|exact .inl rfl|exact .inr rfl|assumption))) (@zad _ _ _ (@ya0 _ _ _ _ _ _ _ _ (@zah _ _ _ _ _ _ _ _ yby (pv 2) zab (yai _)) (@zad _ _ _ (@yag _ _ 12 _ _ _ _ yah.nd rfl (Or.inl rfl) (@zae _ _ _ _ _ _ _ _ _ _ _ h__law_ring hr (by decide) rfl (@zaa _ _ _ _ _ (@zae _ _ _ _ _ _ _ _ _ _ _ h__law_pick hr (by decide) rfl (@zaa _ _ _ _ _ (pv 0) (@zaa _ _ _ _ _ (pv 10) yab (by rfl)) (by rfl)) (by decide) (by rfl) (by rfl)) (@zaa _ _ _ _ _ (pv 10) (@zaa _ _ _ _ _ (pv 7) yab (by rfl)) (by rfl)) (by rfl)) (by decide) (by rfl) (by rfl)) (by rfl) (by first|exact .inl rfl|exact .inr rfl|assumption))) (@zad _ _ _ (@ya0 _ _ _ _ _ _ _ _ (@zah _ _ _ _ _ _ _ _ zby (pv 2) zab (yai _)) (@yaa _ _ _ _ _ (@zbU _ _ 13 14 _ _ _ _ _ _ _ _ _ _ _ rfl yah.nd rfl rfl (by decide) rfl rfl (@zaa _ _ _ _ _ (@zae _ _ _ _ _ _ _ _ _ _ _ h__law_pick hr (by decide) rfl (@zaa _ _ _ _ _ (pv 0) (@zaa _ _ _ _ _ (pv 10) yab (by rfl)) (by rfl)) (by decide) (by rfl) (by rfl)) (@zaa _ _ _ _ _ (@zae _ _ _ _ _ _ _ _ _ _ _ h__law_pick hr (by decide) rfl (@zaa _ _ _ _ _ (pv 0) (@zaa _ _ _ _ _ (pv 10) yab (by rfl)) (by rfl)) (by decide) (by rfl) (by rfl)) yab (by rfl)) (by rfl)) rfl (by rfl)) (@zad _ _ _ (@zaz _ _ _ _ _ _ _ _ PassesOwn.never rfl (@yay _ _ _ _ _ _ rfl (B "range" (by decide)) (@zaa _ _ _ _ _ (pv 14) yab (by rfl)) (by rfl)) (@zaf _ _ 15 _ yah.nd rfl (Or.inl rfl) (by first|exact .inl rfl|exact .inr rfl|assumption)) (@zad _ _ _ (@ya0 _ _ _ _ _ _ _ _ (@PW.pt _ _ _ (@ycL _ _ _ _ _ _ _ (@zah _ _ _ _ _ _ _ _ zby (pv 2) zab (yai _)) (@zbG _ _ _ _ (@zah _ _ _ _ _ _ _ _ yby (@zae _ _ _ _ _ _ _ _ _ _ _ h__law_pick hr (by decide) rfl (@zaa _ _ _ _ _ (pv 0) (@zaa _ _ _ _ _ zab yab (by rfl)) (by rfl)) (by decide) (by rfl) (by rfl)) zab (yai _))))) (@zad _ _ _ (@yag _ _ 12 _ _ _ _ yah.nd rfl (Or.inl rfl) (@zag _ _ _ _ _ _ _ _ yfM (pv 12) (@zae _ _ _ _ _ _ _ _ _ _ _ h__law_ring hr (by decide) rfl (@zaa _ _ _ _ _ (@zag _ _ _ _ _ _ _ _ zao (pv 13) (pv 15)) (@zaa _ _ _ _ _ (pv 10) (@zaa _ _ _ _ _ (pv 7) yab (by rfl)) (by rfl)) (by rfl)) (by decide) (by rfl) (by rfl))) (by rfl) (by first|exact .inl rfl|exact .inr rfl|assumption))) zat)) (by intro _;rfl)))) zat))))) (@zad _ _ _ (@yal _ _ _ _ (@ybm _ _ _ _ _ (@zaa _ _ _ _ _ (pv 4) (@zaa _ _ _ _ _ (@ybm _ _ _ _ _ (@zaa _ _ _ _ _ (@za7 _ _ _ _ _ _ (ycc hr) (pv 4) ya1 (fun _ _=>rfl)) (@zaa _ _ _ _ _ (pv 6) (@zaa _ _ _ _ _ (pv 11) (@zaa _ _ _ _ _ (@ybG _ _ _ _ _ _ _ _ _ ycv rfl (B "tuple" (by decide)) ybL (@zaa _ _ _ _ _ (@ydT _ _ _ _ _ _ _ rfl rfl (B "sorted" (by decide)) rfl (B "set" (by decide)) (pv 12) (by rfl) (by rfl)) yab (by rfl)) (by decide) (by decide) (by rfl) (by rfl)) yab (by rfl)) (by rfl)) (by rfl)) (by rfl))) yab (by rfl)) (by rfl))))))))))))))))),?_⟩
  refine ⟨_,rfl,pu,g,6,rfl,hP,by omega,by omega,fun way H1 hway hP1 sx1=>?_⟩
  refine ⟨_,rfl,pu,g,3,rfl,hP1,by omega,by omega,fun far H2 hfar hP2 sx2=>?_⟩
  refine ⟨_,_,rfl,?_⟩
  refine ⟨_,rfl,pu,g,rfl,hP2,fun fa p m t H3 nf1 nf2 nf ef G hP3 sx3=>?_⟩
  refine ⟨fa,p,m,t,rfl,ef,G,fun tb pa la b H4 ntb npa nla T4 s4=>?_⟩
  have hP4:=hP3.same s4
  have ap:zfy pu g tb fa pa la:=⟨(hP3.lt ntb).1,(hP3.lt ntb).2,nf1,nf2,(hP3.lt npa).1,(hP3.lt npa).2,(hP3.lt nla).1,(hP3.lt nla).2⟩
  have sx4:=(sx1.trans (sx2.trans sx3)).trans (Same.x s4)
  have hp:=G.hp
  have hm:=G.hm
  have hQ:=G.hq
  have hQ2:=zbK hp hm
  have hm6:=m_le hp hQ
  refine ⟨_,rfl,tb,_,rfl,T4.get zf0,_,_,rfl,rfl,?_⟩
  refine ⟨1,((m+1:Nat):Int),rfl,by omega,?_⟩
  refine zaE yau (fun k acc H'=>H'=H4∧∃fs:List Nat,acc=fs.map Vn∧(∀f∈fs,1≤f∧m%f=0)∧fs.length≤k∧(0<k→0<fs.length)) ⟨rfl,([]:List Nat),rfl,fun f hf=>absurd hf (by simp),Nat.le_refl _,fun h=>absurd h (Nat.lt_irrefl _)⟩ (fun _ _ _ _ _=>trivial) ?_ ?_ ?_
  · rintro k acc H' hk ⟨_,fs,rfl,_,hl,_⟩
    rw [List.length_map];exact zap (by omega)
  · rintro k acc x H' H'' hk ⟨rfl,fs,rfl,hfs,hl,h0⟩ ⟨rfl,rfl⟩
    refine ⟨_,rfl,tb,_,rfl,T4.get zf0,_,rfl,_,_,rfl,rfl,by show (0:Int)<1+(k:Int);omega,rfl,_,rfl,?_⟩
    have ed:decide (V.int ((m:Int)%(1+(k:Int)))=V.int 0)=decide (m%(1+k)=0):=by rw [show (1+(k:Int))=((1+k:Nat):Int) by omega];exact yeZ _ _
    refine ite2 (fun c=>?_) (fun c=>?_)
    · have c1:m%(1+k)=0:=by rw [ed] at c;exact of_decide_eq_true c
      refine ⟨_,rfl,rfl,fs++[1+k],?_,?_,by simp;omega,fun _=>by simp⟩
      · rw [List.map_append,show V.int (1+(k:Int))=Vn (1+k) from ybc (by omega)];rfl
      · intro f hf
        rcases List.mem_append.mp hf with h|h
        · exact hfs f h
        · cases List.mem_singleton.mp h;exact ⟨by omega,c1⟩
    · refine ⟨rfl,fs,rfl,hfs,by omega,fun _=>?_⟩
      by_cases c0:k=0
      · subst c0
        refine absurd ?_ c
        rw [ed,decide_eq_true (by show m%1=0;exact Nat.mod_one m)]
      · exact h0 (by omega)
  rintro acc H5 ⟨rfl,fs,rfl,hfs,hfl,hf0⟩ fl hfl'
  have hfl2:fs.length≤m:=by omega
  have hf1:0<fs.length:=hf0 (by omega)
  have s5:=yad hfl' (.lst (fs.map Vn))
  have T5:=T4.same s5
  have hP5:=hP4.same s5
  have nfl:=hP4.lt hfl'
  have e5:upd H5 fl (.lst (fs.map Vn)) fl=some (.lst (fs.map Vn)):=yac
  have sx5:=sx4.trans (Same.x s5)
  dsimp only [zas]
  generalize upd H5 fl (.lst (fs.map Vn))=H5' at s5 T5 hP5 e5 sx5 ⊢
  refine ⟨_,rfl,_,rfl,_,rfl,fl,_,rfl,.inl (SqL.of e5),?_⟩
  refine ⟨pu,g,fs.length,by rw [List.length_map];rfl,hP5,hf1,by omega,fun fi H6 hfi hP6 sx6=>?_⟩
  have hfew:=hfs (fs.getD fi 0) (by
    have:=List.getElem_mem hfi
    rwa [show fs.getD fi 0=fs[fi] by simp [List.getD,hfi]])
  have e6:=sx6 _ _ nfl.1 nfl.2 e5
  have sx6':=sx5.trans sx6
  refine ⟨fl,_,_,Vn (fs.getD fi 0),rfl,rfl,SqL.of e6,za8 (ybr hfi),?_⟩
  generalize fs.getD fi 0=few at hfew ⊢
  have hfewm:few≤m:=Nat.le_of_dvd (by omega) (Nat.dvd_of_mod_eq_zero hfew.2)
  have T6:=T5.x ap sx6
  dsimp only [zas]
  refine ⟨_,rfl,tb,_,rfl,T6.get zgj,_,rfl,p,few,rfl,p_le hp hm hQ,by omega,?_⟩
  have hqq:p^few≤64:=Nat.le_trans (Nat.pow_le_pow_right (by omega) hfewm) hQ
  dsimp only [zas]
  refine ⟨_,rfl,tb,_,rfl,T6.get ydI,?_⟩
  refine ⟨1,((p^m:Nat):Int),rfl,by omega,?_⟩
  refine zaE yau (fun k acc H'=>Same H6 H'∧∃ts:List Addr,acc=ts.map V.ref∧ts.length=k∧(∀a∈ts,zbd p m t H' a)∧(0<k→∃a∈ts,pn H' a=1)) ⟨Same.refl _,([]:List Addr),rfl,rfl,fun a ha=>absurd ha (by simp),fun h=>absurd h (Nat.lt_irrefl _)⟩ (fun _ _ _ _ _=>trivial) ?_ ?_ ?_
  · rintro k acc H' hk ⟨_,ts,rfl,hl,_⟩
    rw [List.length_map,hl];exact zap (by omega)
  · rintro k acc x H' H'' hk ⟨s',ts,rfl,hl,hts,h1⟩ ⟨rfl,rfl⟩
    have hk2:1+k<p^m:=by omega
    refine ⟨_,rfl,_,rfl,tb,fa,pa,la,p,m,t,b,1+k,?_,T6.same s',by omega,hk2,fun n o hn=>?_⟩
    · rw [show (1+(k:Int))=((1+k:Nat):Int) by omega];rfl
    refine ⟨_,rfl,szl 2,fun a ha=>?_⟩
    have sn:=yad ha (.tup [Vn n,.int (1+(k:Int))])
    have en:upd H'' a (.tup [Vn n,.int (1+(k:Int))]) a=some (.tup [Vn n,Vn (1+k)]):=by rw [yac];congr 1
    refine ⟨s'.trans sn,ts++[a],by rw [List.map_append];rfl,by simp [hl],?_,?_⟩
    · intro a' ha'
      rcases List.mem_append.mp ha' with h|h
      · exact (hts a' h).same sn
      · cases List.mem_singleton.mp h
        exact ⟨n,1+k,en,o,hn,by omega,hk2⟩
    · intro _
      by_cases c0:k=0
      · subst c0
        refine ⟨a,by simp,?_⟩
        rw [zbQ en]
        have h2:=o.pos
        have h3:=o.le (k:=1) (by omega) (by rw [ydG hp hm (by omega)])
        omega
      · obtain ⟨a',ha',e'⟩:=h1 (by omega)
        obtain ⟨n',x',hx',_⟩:=hts a' ha'
        exact ⟨a',List.mem_append_left _ ha',by rw [zbQ (sn _ _ hx'),←zbQ hx'];exact e'⟩
  rintro acc H7 ⟨s7,ts,rfl,htl,hts,hone⟩ rl hrl
  have htl2:ts.length=p^m-1:=by
    rw [htl,show ((p^m:Nat):Int)-1=((p^m-1:Nat):Int) by omega];rfl
  obtain ⟨a1,ha1,ea1⟩:=hone (by omega)
  have s7':=s7.trans (yad hrl (.lst (ts.map V.ref)))
  have T7:=T6.same s7'
  have hP7:=hP6.same s7'
  have nrl:=(hP6.same s7).lt hrl
  have e7:upd H7 rl (.lst (ts.map V.ref)) rl=some (.lst (ts.map V.ref)):=yac
  have hts7:∀a∈ts,zbd p m t (upd H7 rl (.lst (ts.map V.ref))) a:=fun a ha=>(hts a ha).same (yad hrl _)
  have ea7:pn (upd H7 rl (.lst (ts.map V.ref))) a1=1:=by
    obtain ⟨n',x',hx',_⟩:=hts a1 ha1
    rw [zbQ (yad hrl _ _ _ hx'),←zbQ hx'];exact ea1
  have sx7:=sx6'.trans (Same.x s7')
  dsimp only [zas]
  generalize upd H7 rl (.lst (ts.map V.ref))=H8 at s7' T7 hP7 e7 hts7 ea7 sx7 ⊢
  refine ⟨_,rfl,rl,rfl,⟨_,SqL.of e7⟩,?_⟩
  refine zaE (zaN (xs:=ts.map V.ref)) (fun k acc H'=>H'=H8∧acc=((ts.take k).filter fun a=>decide (pn H8 a≤most)).map V.ref) ⟨rfl,rfl⟩ (fun i acc H' _ h=>h.1 ▸ SqL.of e7) ?_ ?_ ?_
  · rintro k acc H' hk ⟨_,rfl⟩
    have:=List.length_filter_le (fun a=>decide (pn H8 a≤most)) (ts.take k)
    rw [List.length_take] at this
    rw [List.length_map];exact zap (by omega)
  · rintro k acc z H' H'' hk ⟨rfl,rfl⟩ ⟨rfl,ez⟩
    obtain ⟨a,ea,rfl⟩:=zdk ez
    obtain ⟨n,x,hx,_⟩:=hts7 a (List.mem_of_getElem? ea)
    refine ⟨_,rfl,a,_,_,Vn n,rfl,rfl,SqT.of hx,rfl,_,rfl,_,_,rfl,rfl,_,rfl,?_⟩
    rw [zbr ea,List.filter_append]
    refine ite2 (fun c=>?_) (fun c=>?_)
    · have c1:n≤most:=by have:=of_decide_eq_true c;omega
      refine ⟨_,rfl,rfl,?_⟩
      rw [List.map_append]
      simp [zbQ hx,c1]
    · have c1:¬ n≤most:=fun h=>c (decide_eq_true (by omega))
      refine ⟨rfl,?_⟩
      simp [zbQ hx,c1]
  rw [List.length_map]
  rintro acc H9 ⟨rfl,rfl⟩ r2 hr2
  rw [List.take_length]
  obtain ⟨us,hus⟩:∃us,us=ts.filter fun a=>decide (pn H9 a≤most):=⟨_,rfl⟩
  rw [←hus]
  have hu1:∀a∈us,zbd p m t H9 a∧pn H9 a≤most:=fun a ha=>by
    rw [hus] at ha
    have:=List.mem_filter.mp ha
    exact ⟨hts7 a this.1,of_decide_eq_true this.2⟩
  have hu0:a1∈us:=by rw [hus];exact List.mem_filter.mpr ⟨ha1,decide_eq_true (by rw [ea7];exact hmost)⟩
  have hul:us.length≤63:=by
    have:=List.length_filter_le (fun a=>decide (pn H9 a≤most)) ts
    rw [←hus] at this
    omega
  clear hus
  have pk:∀ {H H':Hp},Same H H'→∀a,zbd p m t H a→pn H' a=pn H a:=fun s a ⟨n,x,h,_⟩=>by rw [zbQ (s _ _ h),zbQ h]
  have s9:=yad hr2 (.lst (us.map V.ref))
  have T9:=T7.same s9
  have hP9:=hP7.same s9
  have n2:=hP7.lt hr2
  have e9:upd H9 r2 (.lst (us.map V.ref)) r2=some (.lst (us.map V.ref)):=yac
  have hu9:∀a∈us,zbd p m t (upd H9 r2 (.lst (us.map V.ref))) a∧pn (upd H9 r2 (.lst (us.map V.ref))) a≤most:=fun a ha=>⟨(hu1 a ha).1.same s9,by rw [pk s9 a (hu1 a ha).1];exact (hu1 a ha).2⟩
  have sx9:=sx7.trans (Same.x s9)
  dsimp only [zas]
  generalize upd H9 r2 (.lst (us.map V.ref))=HA at s9 T9 hP9 e9 hu9 sx9 ⊢
  refine ⟨_,rfl,r2,rfl,⟨_,SqL.of e9⟩,?_⟩
  refine zaE (zaN (xs:=us.map V.ref)) (fun k acc H'=>H'=HA∧acc=((us.take k).map (pn HA)).map Vn) ⟨rfl,rfl⟩ (fun i acc H' _ h=>h.1 ▸ SqL.of e9) ?_ ?_ ?_
  · rintro k acc H' hk ⟨_,rfl⟩
    rw [List.length_map,List.length_map,List.length_take];exact zap (by omega)
  · rintro k acc z H' H'' hk ⟨rfl,rfl⟩ ⟨rfl,ez⟩
    obtain ⟨a,ea,rfl⟩:=zdk ez
    obtain ⟨⟨n,x,hx,_⟩,_⟩:=hu9 a (List.mem_of_getElem? ea)
    refine ⟨_,rfl,a,_,_,Vn n,rfl,rfl,SqT.of hx,rfl,rfl,?_⟩
    rw [zbr ea,List.map_append,List.map_append,show [a].map (pn H'')=[n] by rw [List.map_singleton,zbQ hx]];rfl
  rw [List.length_map]
  rintro acc HB ⟨rfl,rfl⟩ gl' hgl'
  rw [List.take_length]
  refine ⟨gl',(us.map (pn HB)).map (fun n:Nat=>(n:Int)),rfl,SqL.of (by rw [mapI];exact yac),by rw [List.length_map,List.length_map];exact List.length_pos_of_mem hu0,fun M hM1 hM2=>?_⟩
  obtain ⟨M,hM,rfl⟩:=List.mem_map.mp hM1
  obtain ⟨aM,haM,eM⟩:=List.mem_map.mp hM
  have sB:=yad hgl' (.lst ((us.map (pn HB)).map Vn))
  have TB:=T9.same sB
  have hPB:=hP9.same sB
  have eB:=sB _ _ e9
  have huB:∀a∈us,zbd p m t (upd HB gl' (.lst ((us.map (pn HB)).map Vn))) a∧pn (upd HB gl' (.lst ((us.map (pn HB)).map Vn))) a≤most:=fun a ha=>⟨(hu9 a ha).1.same sB,by rw [pk sB a (hu9 a ha).1];exact (hu9 a ha).2⟩
  have eMB:pn (upd HB gl' (.lst ((us.map (pn HB)).map Vn))) aM=M:=by rw [pk sB aM (hu9 aM haM).1];exact eM
  have sxB:=sx9.trans (Same.x sB)
  dsimp only [zas]
  generalize upd HB gl' (.lst ((us.map (pn HB)).map Vn))=HC at sB TB hPB eB huB eMB sxB ⊢
  change tSeq (tIfS _ _ _) _ _ _ _
  refine zbl (fun σ H'=>∃(rr:Addr) (ws:List Addr),Same HC H'∧H' rr=some (.lst (ws.map V.ref))∧(rr≠pu∧rr≠g)∧0<ws.length∧ws.length≤63∧(∀a∈ws,zbd p m t H' a∧pn H' a≤most)∧
    σ=[some (.ref pu),some (Vn most),some (Vn way),some (Vn far),some (.ref tb),some (.ref fl),some (Vn few),some (Vn (p^few)),some (.ref rr),some (Vn M),none,none,none,none,none,none]) ?_ ?_
  · rintro σ HE ⟨rr,ws,sE,eE,nrr,hw0,hw1,hws,rfl⟩
    have TE:=TB.same sE
    have hPE:=hPB.same sE
    have sxE:=sxB.trans (Same.x sE)
    refine ⟨_,rfl,_,rfl,_,rfl,rr,_,rfl,.inl (SqL.of eE),?_⟩
    refine ⟨pu,g,ws.length,by rw [List.length_map];rfl,hPE,hw0,by omega,fun wi HF hwi hPF sxF=>?_⟩
    have hwm:ws[wi]∈ws:=List.getElem_mem hwi
    obtain ⟨⟨n,root,hpr,ord,hnq,r0,rq⟩,hmo⟩:=hws _ hwm
    rw [zbQ hpr] at hmo
    have npr:=hPE.tup_ne hpr
    have hprF:=sxF _ _ npr.1 npr.2 hpr
    have eF:=sxF _ _ nrr.1 nrr.2 eE
    have TF:=TE.x ap sxF
    have sxF':=sxE.trans sxF
    have hn0:=ord.pos
    refine ⟨rr,_,_,.ref ws[wi],rfl,rfl,SqL.of eF,za8 (by rw [List.getElem?_map,List.getElem?_eq_getElem hwi];rfl),?_⟩
    refine ⟨ws[wi],_,rfl,SqT.of hprF,rfl,_,_,rfl,_,_,rfl,rfl,?_⟩
    refine ⟨szl 0,fun m0 hm0=>?_⟩
    have sG:=yad hm0 (.lst [])
    have hPG:=hPF.same sG
    have nm0:=hPF.lt hm0
    have eG:upd HF m0 (.lst []) m0=some (.lst (([]:List Nat).map Vn)):=yac
    have TG:=TF.same sG
    have sxG:=sxF'.trans (Same.x sG)
    dsimp only [zas]
    generalize upd HF m0 (.lst [])=HG at sG hPG eG TG sxG ⊢
    have hrnd:=Ord.round G r0 rq ord hfew.2 hfew.1
    have hme:1≤m/few:=Nat.div_pos hfewm hfew.1
    have hme2:m/few≤6:=Nat.le_trans (Nat.div_le_self _ _) hm6
    change tSeq (tIfS _ _ _) _ _ _ _
    refine zbl (fun σ H'=>Pu H' pu g∧zar pu g HG H'∧∃(ml:Addr) (ns:List Nat) (s13 s14 s15:Option V),H' ml=some (.lst (ns.map Vn))∧(ml≠pu∧ml≠g)∧ns.length≤400∧(∀x∈ns,x<n)∧(∀x∈ns,x*p^few%n∈ns)∧
      σ=[some (.ref pu),some (Vn most),some (Vn way),some (Vn far),some (.ref tb),some (.ref fl),some (Vn few),some (Vn (p^few)),some (.ref rr),some (Vn M),some (Vn n),some (Vn root),some (.ref ml),s13,s14,s15]) ?_ ?_
    · rintro σ HI ⟨hPI,sxI,ml,ns,s13,s14,s15,eI,nml,hnl,hnn,hnc,rfl⟩
      have TI:=TG.x ap sxI
      refine ⟨_,rfl,_,rfl,tb,_,rfl,TI.get zed,_,rfl,_,rfl,_,rfl,ml,ns.map (fun n:Nat=>(n:Int)),rfl,SqL.of (by rw [mapI];exact eI),by rw [List.length_map];omega,?_,?_⟩
      · intro ks hks hsub
        have:=zc4 (τ:=(List.range n).map fun i:Nat=>(i:Int)) hks fun k hk=>by
          obtain ⟨x,hx,rfl⟩:=List.mem_map.mp (hsub k hk)
          exact List.mem_map.mpr ⟨x,List.mem_range.mpr (hnn x hx),rfl⟩
        rw [List.length_map,List.length_range] at this
        omega
      · intro l2 ns' hl2 hasc hmem
        obtain ⟨marks,hmk⟩:∃marks:List Nat,ns'=marks.map fun x:Nat=>(x:Int):=by
          refine ⟨ns'.map Int.toNat,?_⟩
          rw [List.map_map]
          conv=>lhs;rw [←List.map_id ns']
          refine List.map_congr_left fun k hk=>?_
          obtain ⟨x,_,rfl⟩:=List.mem_map.mp ((hmem k).mp hk)
          rfl
        subst hmk
        have hmm:∀x:Nat,x∈marks↔x∈ns:=fun x=>by
          have:=hmem (x:Int)
          constructor
          · intro h
            obtain ⟨y,hy,e⟩:=List.mem_map.mp (this.mp (List.mem_map_of_mem h))
            rw [←Int.ofNat.inj e];exact hy
          · intro h
            obtain ⟨y,hy,e⟩:=List.mem_map.mp (this.mpr (List.mem_map_of_mem h))
            rw [←Int.ofNat.inj e];exact hy
        have hasc2:marks.Pairwise (· < ·):=by
          rw [List.pairwise_map] at hasc
          exact hasc.imp fun h=>by omega
        rw [mapI]
        have s2:=yad hl2 (.lst (marks.map Vn))
        refine ⟨l2,_,rfl,.inl ⟨SqL.of yac,fun mk hmk=>?_⟩⟩
        have s3:=yad hmk (.tup (marks.map Vn))
        refine ⟨szl 4,fun wh hwh=>?_⟩
        have s4':=yad hwh (.tup [.ref fa,Vn few,Vn root,.ref mk])
        refine ⟨szl 2,fun r hr=>?_⟩
        have s5':=yad hr (.tup [.ref tb,.ref wh])
        have hP2':=hPI.same s2
        have hP3':=hP2'.same s3
        have hP4':=hP3'.same s4'
        refine q r tb fa pa la wh mk p m t b few root n marks _ yac ((((TI.same s2).same s3).same s4').same s5') ap ⟨s5' _ _ yac,s5' _ _ (s4' _ _ yac)⟩ (hP3'.lt hwh) (hP2'.lt hmk) (hP4'.lt hr) ⟨hfew.1,hfew.2,r0,rq,ord,hnq,hasc2,fun x hx=>hnn x ((hmm x).mp hx),fun x hx=>(hmm _).mpr (hnc x ((hmm x).mp hx))⟩ hmo (hP4'.same s5') ?_
        exact (sxG.trans sxI).trans (Same.x (((s2.trans s3).trans s4').trans s5'))
    · intro D' _ _ _ hD'
      refine ⟨_,rfl,rfl,_,rfl,?_⟩
      refine ite2 (fun c=>?_) (fun c=>?_)
      · refine ⟨_,rfl,(n:Int),rfl,fun rg hrg=>⟨rg,0,(n:Int),rfl,yac,by omega,by rw [show ((n:Int)-0).toNat=n by omega];exact szl _ (by omega),fun l hl=>?_⟩⟩
        have s1':=yad hrg (.rng 0 (n:Int))
        have e1:L2.intsFrom 0 ((n:Int)-0).toNat=(List.range n).map Vn:=by
          rw [show ((n:Int)-0).toNat=n by omega]
          unfold L2.intsFrom
          refine List.map_congr_left fun i _=>?_
          rw [Int.zero_add]
        rw [e1]
        have s2':=yad hl (.lst ((List.range n).map Vn))
        exact hD' _ _ ⟨(hPG.same s1').same s2',Same.x (s1'.trans s2'),l,List.range n,_,_,_,yac,(hPG.same s1').lt hl,by rw [List.length_range];omega,fun x hx=>List.mem_range.mp hx,fun x _=>List.mem_range.mpr (Nat.mod_lt _ (by omega)),rfl⟩
      · refine ⟨_,rfl,rfl,_,rfl,?_⟩
        refine ite2 (fun c=>?_) (fun c=>?_)
        · refine ⟨_,rfl,_,rfl,pu,g,n,rfl,hPG,by omega,by omega,fun i HJ hi hPJ sxJ=>?_⟩
          refine ⟨_,rfl,_,rfl,i,n,p^few,m/few,rfl,by omega,by omega,hqq,hme,hme2,hrnd,fun r ns HK sK nr er h1 h2 h3 h4 _ _ _=>?_⟩
          exact hD' _ _ ⟨hPJ.same sK,sxJ.trans (Same.x sK),r,ns,_,_,_,er,hPJ.lt nr,by omega,h3,h4,rfl⟩
        · refine ⟨_,rfl,_,_,rfl,rfl,_,rfl,?_⟩
          refine ite2 (fun c=>?_) (fun c=>?_)
          · refine ⟨_,rfl,_,rfl,pu,g,n,rfl,hPG,by omega,by omega,fun first HJ hfi hPJ sxJ=>?_⟩
            refine ⟨_,rfl,_,rfl,pu,g,n,rfl,hPJ,by omega,by omega,fun many HK hma hPK sxK=>?_⟩
            refine ⟨_,_,rfl,?_⟩
            refine ⟨_,rfl,many,rfl,by omega,by omega,?_⟩
            have eK:=sxK _ _ nm0.1 nm0.2 (sxJ _ _ nm0.1 nm0.2 eG)
            refine zaY (n:=many) (fun k σ H'=>Pu H' pu g∧zar pu g HG H'∧∃(ml:Addr) (ns:List Nat) (s15:Option V),H' ml=some (.lst (ns.map Vn))∧(ml≠pu∧ml≠g)∧ns.length≤6*k∧(∀x∈ns,x<n)∧(∀x∈ns,x*p^few%n∈ns)∧
              σ=[some (.ref pu),some (Vn most),some (Vn way),some (Vn far),some (.ref tb),some (.ref fl),some (Vn few),some (Vn (p^few)),some (.ref rr),some (Vn M),some (Vn n),some (Vn root),some (.ref ml),some (Vn first),some (Vn many),s15])
              ⟨hPK,sxJ.trans sxK,m0,[],_,eK,nm0,by decide,fun x hx=>absurd hx (by simp),fun x hx=>absurd hx (by simp),rfl⟩ ?_ ?_
            · rintro k σ HL hk ⟨hPL,sxL,ml,ns,s15,eL,nml,hnl,hnn,hnc,rfl⟩
              have body:∀HM,Pu HM pu g→zar pu g HL HM→∀Q:V→Hp→Prop,(∀l (ns':List Nat) H',Pu H' pu g→zar pu g HG H'→H' l=some (.lst (ns'.map Vn))→(l≠pu∧l≠g)→ns'.length≤6*(k+1)→(∀x∈ns',x<n)→(∀x∈ns',x*p^few%n∈ns')→Q (.ref l) H')→
                  tOp rCat (tVar 12) (zfG zcO [] E0 (yce (tOp (rI0 fun i j=>V.int (i+j)) (tVar 13) (tVar 15)) (yce (tVar 10) (yce (tVar 7) tNil)))) [some (.ref pu),some (Vn most),some (Vn way),some (Vn far),some (.ref tb),some (.ref fl),some (Vn few),some (Vn (p^few)),some (.ref rr),some (Vn M),some (Vn n),some (Vn root),some (.ref ml),some (Vn first),some (Vn many),some (.int (0+(k:Int)))] HM Q:=by
                intro HM hPM sxM Q hQ
                have eM:=sxM _ _ nml.1 nml.2 eL
                refine ⟨_,rfl,_,rfl,_,rfl,_,_,rfl,rfl,_,rfl,_,rfl,first+k,n,p^few,m/few,?_,by omega,by omega,hqq,hme,hme2,hrnd,fun r rs HN sN nr er h1 h2 h3 h4 _ _ _=>?_⟩
                · show [V.int ((first:Int)+(0+(k:Int))),Vn n,Vn (p^few)]=[Vn (first+k),Vn n,Vn (p^few)]
                  rw [show (first:Int)+(0+(k:Int))=((first+k:Nat):Int) by omega]
                refine ⟨ml,r,_,_,rfl,rfl,sN _ _ eM,er,by rw [List.length_map,List.length_map];exact szl _ (by omega),fun l hl=>?_⟩
                rw [←List.map_append]
                have sO:=yad hl (.lst ((ns++rs).map Vn))
                refine hQ l (ns++rs) _ ((hPM.same sN).same sO) ((sxL.trans sxM).trans (Same.x (sN.trans sO))) yac ((hPM.same sN).lt hl) (by rw [List.length_append];omega) (fun x hx=>?_) (fun x hx=>?_)
                · rcases List.mem_append.mp hx with h|h
                  · exact hnn x h
                  · exact h3 x h
                · rcases List.mem_append.mp hx with h|h
                  · exact List.mem_append_left _ (hnc x h)
                  · exact List.mem_append_right _ (h4 x h)
              refine ⟨_,rfl,_,_,rfl,rfl,_,rfl,?_⟩
              refine ite2 (fun c=>?_) (fun c=>?_)
              · refine ite2 (fun _=>?_) (fun h=>absurd rfl h)
                exact body HL hPL zar.refl _ fun l ns' H' a1 a2 a3 a4 a5 a6 a7=>⟨a1,a2,l,ns',_,a3,a4,a5,a6,a7,rfl⟩
              · refine ⟨_,rfl,pu,g,3,rfl,hPL,by omega,by omega,fun v HM hv hPM sxM=>?_⟩
                refine ⟨rfl,_,rfl,?_⟩
                refine ite2 (fun _=>?_) (fun _=>?_)
                · exact body HM hPM sxM _ fun l ns' H' a1 a2 a3 a4 a5 a6 a7=>⟨a1,a2,l,ns',_,a3,a4,a5,a6,a7,rfl⟩
                · exact ⟨hPM,sxL.trans sxM,ml,ns,_,sxM _ _ nml.1 nml.2 eL,nml,by omega,hnn,hnc,rfl⟩
            · rintro σ HL ⟨hPL,sxL,ml,ns,s15,eL,nml,hnl,hnn,hnc,rfl⟩
              exact hD' _ _ ⟨hPL,sxL,ml,ns,_,_,_,eL,nml,by omega,hnn,hnc,rfl⟩
          · exact hD' _ _ ⟨hPG,zar.refl,m0,[],_,_,_,eG,nm0,by decide,fun x hx=>absurd hx (by simp),fun x hx=>absurd hx (by simp),rfl⟩
  · intro D' _ _ _ hD'
    refine ⟨_,rfl,_,_,rfl,rfl,_,rfl,?_⟩
    refine ite2 (fun c=>?_) (fun c=>?_)
    · refine ⟨_,rfl,r2,rfl,⟨_,SqL.of eB⟩,?_⟩
      refine zaE (zaN (xs:=us.map V.ref)) (fun k acc H'=>H'=HC∧acc=((us.take k).filter fun a=>decide (pn HC a=M)).map V.ref) ⟨rfl,rfl⟩ (fun i acc H' _ h=>h.1 ▸ SqL.of eB) ?_ ?_ ?_
      · rintro k acc H' hk ⟨_,rfl⟩
        have:=List.length_filter_le (fun a=>decide (pn HC a=M)) (us.take k)
        rw [List.length_take] at this
        rw [List.length_map];exact zap (by omega)
      · rintro k acc z H' H'' hk ⟨rfl,rfl⟩ ⟨rfl,ez⟩
        obtain ⟨a,ea,rfl⟩:=zdk ez
        obtain ⟨⟨n,x,hx,_⟩,_⟩:=huB a (List.mem_of_getElem? ea)
        refine ⟨_,rfl,a,_,_,Vn n,rfl,rfl,SqT.of hx,rfl,_,rfl,rfl,_,rfl,?_⟩
        have ed:decide (Vn n=Vn M)=decide (n=M):=decide_eq_decide.mpr ⟨fun e=>Int.ofNat.inj (V.int.inj e),fun e=>by rw [e]⟩
        rw [zbr ea,List.filter_append,ed]
        refine ite2 (fun c=>?_) (fun c=>?_)
        · have c1:n=M:=of_decide_eq_true c
          refine ⟨_,rfl,rfl,?_⟩
          rw [List.map_append]
          simp [zbQ hx,c1]
        · have c1:¬ n=M:=fun h=>c (decide_eq_true h)
          refine ⟨rfl,?_⟩
          simp [zbQ hx,c1]
      rw [List.length_map]
      rintro acc HD ⟨rfl,rfl⟩ r3 hr3
      rw [List.take_length]
      have s3:=yad hr3 (.lst ((us.filter fun a=>decide (pn HD a=M)).map V.ref))
      refine hD' _ _ ⟨r3,us.filter fun a=>decide (pn HD a=M),s3,yac,hPB.lt hr3,?_,?_,?_,rfl⟩
      · exact List.length_pos_of_mem (List.mem_filter.mpr ⟨haM,decide_eq_true eMB⟩)
      · exact Nat.le_trans (List.length_filter_le _ _) hul
      · intro a ha
        have h1:=huB a (List.mem_filter.mp ha).1
        exact ⟨h1.1.same s3,by rw [pk s3 a h1.1];exact h1.2⟩
    · exact hD' _ _ ⟨r2,us,Same.refl _,eB,n2,List.length_pos_of_mem hu0,hul,huB,rfl⟩
end
end My
end
section
-- text: PN
set_option Elab.async false
set_option linter.all false
set_option maxRecDepth 100000
set_option maxHeartbeats 4000000
namespace L2
open PySem PyProof.Rows
theorem yfr {X:Cx}:OpR X (compareOp .IsNot) (fun x y H Q=>∃a b:Bool,x = .bl a∧y = .bl b∧Q (.bl (!(a==b))) H):=by
  intro pins s σ H x y v u Q I rx ry h
  obtain ⟨a,b,rfl,rfl,q⟩:=h
  cases rx;cases ry
  exact wpAny_pure ⟨.bl _,H,I,by cases a <;> cases b <;> rfl,q⟩
end L2
namespace My
open PySem L2 Dg
local macro_rules | `(tactic| walk_at "rd") => `(tactic| repeat (first | refine ⟨_, rfl, ?_⟩ | refine ⟨_, _, rfl, rfl, ?_⟩))
structure zcX (marks:List Nat) (n first step r:Nat):Prop where
  le:r≤n
  all:∀k,k<r→(first+k*step)%n∈marks
  top:r=n∨(first+r*step)%n∉marks
theorem zcX.uniq {marks:List Nat} {n first step r r':Nat} (h:zcX marks n first step r) (h':zcX marks n first step r'):r=r':=by
  rcases Nat.lt_trichotomy r r' with c|c|c
  · rcases h.top with e|e
    · have:=h'.le;omega
    · exact absurd (h'.all r c) e
  · exact c
  · rcases h'.top with e|e
    · have:=h.le;omega
    · exact absurd (h.all r' c) e
theorem yfa (marks:List Nat) (n f s:Nat):∃r,zcX marks n f s r:=by
  have:∀k,k≤n→(∃r,zcX marks n f s r)∨(∀j,j<k→(f+j*s)%n∈marks):=by
    intro k
    induction k with
    | zero=>intro _;exact .inr fun j hj=>absurd hj (Nat.not_lt_zero _)
    | succ k ih =>
      intro hk
      rcases ih (by omega) with h|h
      · exact .inl h
      · by_cases c:(f+k*s)%n∈marks
        · refine .inr fun j hj=>?_
          by_cases e:j=k
          · rw [e];exact c
          · exact h j (by omega)
        · exact .inl ⟨k,by omega,h,.inr c⟩
  rcases this n (Nat.le_refl _) with h|h
  · exact h
  · exact ⟨n,Nat.le_refl _,h,.inl rfl⟩
section
variable {P:Program} {w:World} {K:PySem.W.Frag} {mg:Str→Option Value} {base:Heap} {f:Addr} {fd:FuncData}
noncomputable def ycd:Sp:=fun vs H Q _=>∃a b:Nat,vs=[Vn a,Vn b]∧Q (Vn (Nat.gcd a b)) H
theorem ya9:zak ["one","other"] ["one","other"] (zac yar):=⟨rfl,rfl,rfl,by decide +kernel,rfl,by decide +kernel,by decide +kernel⟩
theorem yf0 (B:Bl mg) (F:Fun K "greatest_common" "greatest_common" yar f fd):FnOk P w K mg base CX0 1 f fd ["one","other"] ycd:=by
  refine F.ok ya9 (fun vs H Q E h=>?_) (fun cdv A outer s H vs Q E hr h=>?_)
  · obtain ⟨a,b,rfl,_⟩:=h;rfl
  obtain ⟨a,b,rfl,q⟩:=h
  refine ⟨_,(@yaa _ _ _ _ _ (@yax _ _ _ _ _ _ PassesOwn.never (@zah _ _ _ _ _ _ _ _ yc2 (pv 1) zab (yai _)) (@zad _ _ _ (@zbU _ _ 0 1 _ _ _ _ _ _ _ _ _ _ _ rfl ya9.nd rfl rfl (by decide) rfl rfl (@zaa _ _ _ _ _ (pv 1) (@zaa _ _ _ _ _ (@zag _ _ _ _ _ _ _ _ zav (pv 0) (pv 1)) yab (by rfl)) (by rfl)) rfl (by rfl)))) (@zad _ _ _ (@yal _ _ _ _ (pv 0)))),?_⟩
  refine zax (fun σ H'=>H'=H∧∃o u:Nat,σ=[some (Vn o),some (Vn u)]∧Nat.gcd o u=Nat.gcd a b) (fun σ _=>mI σ 1) ⟨rfl,a,b,rfl,rfl⟩ ?_
  rintro σ H' ⟨rfl,o,u,rfl,e⟩
  refine ⟨_,rfl,rfl,_,rfl,?_⟩
  rw [zcF]
  refine ite2 (fun c=>?_) (fun c=>?_)
  have c':0<u:=by
    rcases Nat.eq_zero_or_pos u with h|h
    · rw [decide_eq_true h] at c;exact absurd c (by decide)
    · exact h
  rotate_left
  have c':u=0:=by
    rcases Nat.eq_zero_or_pos u with h|h
    · exact h
    · rw [decide_eq_false (by omega)] at c;exact absurd rfl c
  rotate_left
  · refine ⟨fun σ' H''=>H''=H'∧σ'=[some (Vn u),some (Vn (o%u))],?_,?_⟩
    · rintro σ' H'' ⟨rfl,rfl⟩
      refine ⟨_,by show o%u<u;exact Nat.mod_lt _ c',rfl,rfl,u,o%u,rfl,?_⟩
      rw [←e,Nat.gcd_comm o u,Nat.gcd_rec u o,Nat.gcd_comm]
    · exact ⟨_,rfl,_,rfl,_,rfl,_,_,rfl,rfl,by show (0:Int)<u;omega,_,_,rfl,rfl,rfl⟩
  · refine ⟨_,rfl,?_⟩
    have e2:o=Nat.gcd a b:=by rw [←e,c',Nat.gcd_zero_right]
    rw [e2];exact q
theorem ybA:zak ["_law_one","_law_other"] ["_law_one","_law_other"] (zac yaJ):=⟨rfl,rfl,rfl,by decide +kernel,rfl,by decide +kernel,by decide +kernel⟩
theorem zfD (B:Bl mg) (F:Fun K "_law_common" "_law_common" yaJ f fd):FnOk P w K mg base CX0 1 f fd ["_law_one","_law_other"] ycd:=by
  refine F.ok ybA (fun vs H Q E h=>?_) (fun cdv A outer s H vs Q E hr h=>?_)
  · obtain ⟨a,b,rfl,_⟩:=h;rfl
  obtain ⟨a,b,rfl,q⟩:=h
  refine ⟨_,(@yaa _ _ _ _ _ (@yax _ _ _ _ _ _ PassesOwn.never (@zah _ _ _ _ _ _ _ _ zby (pv 1) zab (yai _)) (@zad _ _ _ (@zbU _ _ 0 1 _ _ _ _ _ _ _ _ _ _ _ rfl ybA.nd rfl rfl (by decide) rfl rfl (@zaa _ _ _ _ _ (pv 1) (@zaa _ _ _ _ _ (@zag _ _ _ _ _ _ _ _ zav (pv 0) (pv 1)) yab (by rfl)) (by rfl)) rfl (by rfl)))) (@zad _ _ _ (@yal _ _ _ _ (pv 0)))),?_⟩
  refine zax (fun σ H'=>H'=H∧∃o u:Nat,σ=[some (Vn o),some (Vn u)]∧Nat.gcd o u=Nat.gcd a b) (fun σ _=>mI σ 1) ⟨rfl,a,b,rfl,rfl⟩ ?_
  rintro σ H' ⟨rfl,o,u,rfl,e⟩
  refine ⟨_,rfl,_,_,rfl,rfl,_,rfl,?_⟩
  refine ite2 (fun c=>?_) (fun c=>?_)
  have c':0<u:=by have:=of_decide_eq_true c;omega
  rotate_left
  have c':u=0:=by have:=of_decide_eq_false (Bool.eq_false_iff.mpr c);omega
  rotate_left
  · refine ⟨fun σ' H''=>H''=H'∧σ'=[some (Vn u),some (Vn (o%u))],?_,?_⟩
    · rintro σ' H'' ⟨rfl,rfl⟩
      refine ⟨_,by show o%u<u;exact Nat.mod_lt _ c',rfl,rfl,u,o%u,rfl,?_⟩
      rw [←e,Nat.gcd_comm o u,Nat.gcd_rec u o,Nat.gcd_comm]
    · exact ⟨_,rfl,_,rfl,_,rfl,_,_,rfl,rfl,by show (0:Int)<u;omega,_,_,rfl,rfl,rfl⟩
  · refine ⟨_,rfl,?_⟩
    have e2:o=Nat.gcd a b:=by rw [←e,c',Nat.gcd_zero_right]
    rw [e2];exact q
noncomputable def zaC (n:Nat):List Nat:=((List.range n).map (·+1)).filter fun s=>decide (Nat.gcd s n=1)
theorem zbg {n s:Nat}:s∈zaC n↔1≤s∧s≤n∧Nat.gcd s n=1:=by
  unfold zaC
  rw [List.mem_filter,List.mem_map]
  constructor
  · rintro ⟨⟨i,hi,rfl⟩,h⟩
    have:=List.mem_range.mp hi
    exact ⟨by omega,by omega,of_decide_eq_true h⟩
  · rintro ⟨h1,h2,h3⟩
    exact ⟨⟨s-1,List.mem_range.mpr (by omega),by omega⟩,decide_eq_true h3⟩
noncomputable def ycw:Sp:=fun vs H Q _=>∃n:Nat,vs=[Vn n]∧n≤64∧∀r H',Same H H'→H r=none→H' r=some (.lst ((zaC n).map Vn))→Q (.ref r) H'
theorem zch:zak ["n"] ["n"] (zac zaA):=⟨rfl,rfl,rfl,by decide +kernel,rfl,by decide +kernel,by decide +kernel⟩
theorem ze9 (B:Bl mg) (h_greatest_common:Has P w K mg base 1 "greatest_common" ["one","other"] ycd) (F:Fun K "steps_round" "steps_round" zaA f fd):FnOk P w K mg base CX0 2 f fd ["n"] ycw:=by
  refine F.ok zch (fun vs H Q E h=>?_) (fun cdv A outer s H vs Q E hr h=>?_)
  · obtain ⟨n,rfl,_⟩:=h;rfl
  obtain ⟨n,rfl,hn,q⟩:=h
  refine ⟨_,(@zad _ _ _ (@yal _ _ _ _ (@zbm _ _ _ _ _ _ _ ["step"] ["n"] [0] _ _ _ _ (id (α:=CSc ["n"] (zac zaA) ["step"] ["n"] [0] _) ⟨by rfl,by decide +kernel,by decide +kernel,by decide +kernel,by decide +kernel,by rfl,by decide +kernel⟩) rfl (@ya7 _ _ _ _ _ _ _ rfl (B "range" (by decide)) (@zaa _ _ _ _ _ zab (@zaa _ _ _ _ _ (@zag _ _ _ _ _ _ _ _ zao (pv 0) zab) yab (by rfl)) (by rfl)) (by rfl) (by rfl)) (fun cl C fp s H=>(@zaf _ _ 0 _ (by show List.Nodup (["step","n"]:List Str);decide +kernel) rfl (Or.inl rfl) (by first|exact .inl rfl|exact .inr rfl|assumption))) (fun _ _ _ _ _=>(@ybv _ _ _ (@zah _ _ _ _ _ _ _ _ yby (@zae _ _ _ _ _ _ _ _ _ _ _ h_greatest_common hr (by decide) rfl (@zaa _ _ _ _ _ (pv 0) (@zaa _ _ _ _ _ (pv 1) yab (by rfl)) (by rfl)) (by decide) (by rfl) (by rfl)) zab (yai _)))) (fun _ _ _ _ _=>(pv 0)) (by intro _;rfl)))),?_⟩
  refine ⟨_,rfl,_,_,rfl,rfl,1,((n+1:Nat):Int),rfl,by omega,?_⟩
  refine zaE yau (fun k acc H'=>H'=H∧acc=((((List.range k).map (·+1)).filter fun s=>decide (Nat.gcd s n=1)).map Vn)) ⟨rfl,rfl⟩ (fun _ _ _ _ _=>trivial) ?_ ?_ ?_
  · rintro k acc H' hk ⟨_,rfl⟩
    have:=List.length_filter_le (fun s=>decide (Nat.gcd s n=1)) ((List.range k).map (·+1))
    rw [List.length_map,List.length_range] at this
    rw [List.length_map];exact zap (by omega)
  · rintro k acc x H' H'' hk ⟨rfl,rfl⟩ ⟨rfl,rfl⟩
    refine ⟨_,rfl,_,rfl,k+1,n,by rw [show (1+(k:Int))=((k+1:Nat):Int) by omega];rfl,rfl,_,rfl,?_⟩
    have e1:((List.range (k+1)).map (·+1))=(List.range k).map (·+1)++[k+1]:=by rw [List.range_succ,List.map_append];rfl
    have ed:decide (Vn (Nat.gcd (k+1) n)=V.int 1)=decide (Nat.gcd (k+1) n=1):=zbx _
    rw [ed,e1,List.filter_append]
    refine ite2 (fun c=>?_) (fun c=>?_)
    · have c':Nat.gcd (k+1) n=1:=of_decide_eq_true c
      refine ⟨_,rfl,rfl,?_⟩
      rw [List.map_append,show V.int (1+(k:Int))=Vn (k+1) from ybc (by omega)]
      simp [c']
    · have c':¬ Nat.gcd (k+1) n=1:=fun h=>c (decide_eq_true h)
      refine ⟨rfl,?_⟩
      simp [c']
  · rintro acc H1 ⟨rfl,rfl⟩ D hD
    have e:(((n+1:Nat):Int)-1).toNat=n:=by omega
    rw [e]
    exact q D _ (yad hD _) hD yac
noncomputable def zdN (K:PySem.W.Frag):Sp:=fun vs H Q _=>∃(mk:Addr) (n f s:Nat) (marks:List Nat),vs=[.ref mk,Vn n,Vn f,Vn s]∧SqT K H mk (marks.map Vn)∧0<n∧n≤64∧s≤64∧∀r,zcX marks n f s r→Q (Vn r) H
theorem zb1 (x:Nat) (marks:List Nat):inV (Vn x) (marks.map Vn)=decide (x∈marks):=by
  unfold inV
  rw [List.any_map]
  rw [Bool.eq_iff_iff,List.any_eq_true,decide_eq_true_eq]
  constructor
  · rintro ⟨y,hy,h⟩
    have:((y:Int)==(x:Int))=true:=h
    rw [←Int.ofNat.inj (eq_of_beq this)];exact hy
  · intro h
    exact ⟨x,h,beq_self_eq_true ((x:Nat):Int)⟩
theorem ybN (marks:List Nat):(marks.map Vn).all ycK=true:=by
  rw [List.all_eq_true]
  intro v hv
  obtain ⟨x,_,rfl⟩:=List.mem_map.mp hv
  rfl
theorem zbk:zak ["marks","n","first","step","many"] ["marks","n","first","step"] (zac yaS):=⟨rfl,rfl,rfl,by decide +kernel,rfl,by decide +kernel,by decide +kernel⟩
theorem zf5 (B:Bl mg) (F:Fun K "marked_run" "marked_run" yaS f fd):FnOk P w K mg base CX0 1 f fd ["marks","n","first","step"] (zdN K):=by
  refine F.ok zbk (fun vs H Q E h=>?_) (fun cdv A outer s H vs Q E hr h=>?_)
  · obtain ⟨mk,n,f,s,marks,rfl,_⟩:=h;rfl
  obtain ⟨mk,n,f,s,marks,rfl,hk,hn,hn2,hs,q⟩:=h
  refine ⟨_,(@yaa _ _ _ _ _ (@yag _ _ 4 _ _ _ _ zbk.nd rfl (Or.inl rfl) zab (by rfl) (by first|exact .inl rfl|exact .inr rfl|assumption)) (@yaa _ _ _ _ _ (@yax _ _ _ _ _ _ PassesOwn.never (@PW.pt _ _ _ (@ybU _ _ _ _ _ _ _ (@zah _ _ _ _ _ _ _ _ ydY (pv 4) (pv 1) (yai _)) (@zbC _ _ _ _ (@zah _ _ _ _ _ _ _ _ ybY (@zag _ _ _ _ _ _ _ _ zav (@zag _ _ _ _ _ _ _ _ zao (pv 2) (@zag _ _ _ _ _ _ _ _ yaL (pv 4) (pv 3))) (pv 1)) (pv 0) (by with_unfolding_all rfl))))) (@zad _ _ _ (@zbn _ _ 4 _ _ _ _ _ _ zbk.nd rfl (Or.inl rfl) zab yb1 (by first|exact .inl rfl|exact .inr rfl|assumption)))) (@zad _ _ _ (@yal _ _ _ _ (pv 4))))),?_⟩
  refine zax (fun σ H'=>H'=H∧∃r:Nat,r≤n∧(∀k,k<r→(f+k*s)%n∈marks)∧σ=[some (.ref mk),some (Vn n),some (Vn f),some (Vn s),some (Vn r)]) (fun σ _=>n-mI σ 4) ⟨rfl,0,Nat.zero_le _,fun k hk=>absurd hk (Nat.not_lt_zero _),rfl⟩ ?_
  rintro σ H' ⟨rfl,r,hr1,hr2,rfl⟩
  have hrs:r*s≤64*64:=Nat.mul_le_mul (by omega) hs
  refine zcC (b1:=decide (r<n)) (b2:=decide ((f+r*s)%n∈marks)) (fun Q q=>⟨_,rfl,_,rfl,_,_,rfl,rfl,_,rfl,?_⟩) (fun _ Q q=>⟨_,rfl,_,rfl,_,rfl,_,_,rfl,rfl,.inl ⟨by show -(2^64:Int)<(r:Int);omega,by show (r:Int)<2^64;omega⟩,_,_,rfl,rfl,_,rfl,_,_,rfl,rfl,by show (0:Int)<n;omega,_,rfl,mk,_,rfl,.inr hk,rfl,ybN marks,_,rfl,?_⟩) ?_
  · rw [show decide ((r:Int)<(n:Int))=decide (r<n) from decide_eq_decide.mpr ⟨fun h=>by omega,fun h=>by omega⟩];exact q
  · show Q (inV (Vn ((f+r*s)%n)) (marks.map Vn)) H'
    rw [zb1];exact q
  refine ite2 (fun c=>?_) (fun c=>?_)
  · simp only [Bool.and_eq_true,decide_eq_true_eq] at c
    refine ⟨fun σ' H''=>H''=H'∧σ'=[some (.ref mk),some (Vn n),some (Vn f),some (Vn s),some (Vn (r+1))],?_,?_⟩
    · rintro σ' H'' ⟨rfl,rfl⟩
      refine ⟨_,by show n-(r+1)<n-r;omega,rfl,rfl,r+1,by omega,fun k hk'=>?_,rfl⟩
      by_cases e:k=r
      · rw [e];exact c.2
      · exact hr2 k (by omega)
    · first
        | exact ⟨_,rfl,_,_,rfl,rfl,rfl,rfl⟩
        | exact ⟨_,rfl,_,rfl,_,_,rfl,rfl,rfl,rfl⟩
  · refine ⟨_,rfl,q r ⟨hr1,hr2,?_⟩⟩
    by_cases h:r<n
    · right
      intro hm
      exact c (by simp only [Bool.and_eq_true,decide_eq_true_eq];exact ⟨h,hm⟩)
    · left;omega
theorem zbE:zak ["_law_marks","_law_n","_law_first","_law_step","_law_many"] ["_law_marks","_law_n","_law_first","_law_step"] (zac ya4):=⟨rfl,rfl,rfl,by decide +kernel,rfl,by decide +kernel,by decide +kernel⟩
theorem yfw (B:Bl mg) (F:Fun K "_law_run" "_law_run" ya4 f fd):FnOk P w K mg base CX0 1 f fd ["_law_marks","_law_n","_law_first","_law_step"] (zdN K):=by
  refine F.ok zbE (fun vs H Q E h=>?_) (fun cdv A outer s H vs Q E hr h=>?_)
  · obtain ⟨mk,n,f,s,marks,rfl,_⟩:=h;rfl
  obtain ⟨mk,n,f,s,marks,rfl,hk,hn,hn2,hs,q⟩:=h
  refine ⟨_,(@yaa _ _ _ _ _ (@yag _ _ 4 _ _ _ _ zbE.nd rfl (Or.inl rfl) zab (by rfl) (by first|exact .inl rfl|exact .inr rfl|assumption)) (@yaa _ _ _ _ _ (@yax _ _ _ _ _ _ PassesOwn.never (@PW.pt _ _ _ (@ybU _ _ _ _ _ _ _ (@zah _ _ _ _ _ _ _ _ ydY (pv 4) (pv 1) (yai _)) (@zbC _ _ _ _ (@zah _ _ _ _ _ _ _ _ ybY (@zag _ _ _ _ _ _ _ _ zav (@zag _ _ _ _ _ _ _ _ zao (pv 2) (@zag _ _ _ _ _ _ _ _ yaL (pv 4) (pv 3))) (pv 1)) (pv 0) (by with_unfolding_all rfl))))) (@zad _ _ _ (@yag _ _ 4 _ _ _ _ zbE.nd rfl (Or.inl rfl) (@zag _ _ _ _ _ _ _ _ zao (pv 4) zab) (by rfl) (by first|exact .inl rfl|exact .inr rfl|assumption)))) (@zad _ _ _ (@yal _ _ _ _ (pv 4))))),?_⟩
  refine zax (fun σ H'=>H'=H∧∃r:Nat,r≤n∧(∀k,k<r→(f+k*s)%n∈marks)∧σ=[some (.ref mk),some (Vn n),some (Vn f),some (Vn s),some (Vn r)]) (fun σ _=>n-mI σ 4) ⟨rfl,0,Nat.zero_le _,fun k hk=>absurd hk (Nat.not_lt_zero _),rfl⟩ ?_
  rintro σ H' ⟨rfl,r,hr1,hr2,rfl⟩
  have hrs:r*s≤64*64:=Nat.mul_le_mul (by omega) hs
  refine zcC (b1:=decide (r<n)) (b2:=decide ((f+r*s)%n∈marks)) (fun Q q=>⟨_,rfl,_,rfl,_,_,rfl,rfl,_,rfl,?_⟩) (fun _ Q q=>⟨_,rfl,_,rfl,_,rfl,_,_,rfl,rfl,.inl ⟨by show -(2^64:Int)<(r:Int);omega,by show (r:Int)<2^64;omega⟩,_,_,rfl,rfl,_,rfl,_,_,rfl,rfl,by show (0:Int)<n;omega,_,rfl,mk,_,rfl,.inr hk,rfl,ybN marks,_,rfl,?_⟩) ?_
  · rw [show decide ((r:Int)<(n:Int))=decide (r<n) from decide_eq_decide.mpr ⟨fun h=>by omega,fun h=>by omega⟩];exact q
  · show Q (inV (Vn ((f+r*s)%n)) (marks.map Vn)) H'
    rw [zb1];exact q
  refine ite2 (fun c=>?_) (fun c=>?_)
  · simp only [Bool.and_eq_true,decide_eq_true_eq] at c
    refine ⟨fun σ' H''=>H''=H'∧σ'=[some (.ref mk),some (Vn n),some (Vn f),some (Vn s),some (Vn (r+1))],?_,?_⟩
    · rintro σ' H'' ⟨rfl,rfl⟩
      refine ⟨_,by show n-(r+1)<n-r;omega,rfl,rfl,r+1,by omega,fun k hk'=>?_,rfl⟩
      by_cases e:k=r
      · rw [e];exact c.2
      · exact hr2 k (by omega)
    · first
        | exact ⟨_,rfl,_,_,rfl,rfl,rfl,rfl⟩
        | exact ⟨_,rfl,_,rfl,_,_,rfl,rfl,rfl,rfl⟩
  · refine ⟨_,rfl,q r ⟨hr1,hr2,?_⟩⟩
    by_cases h:r<n
    · right
      intro hm
      exact c (by simp only [Bool.and_eq_true,decide_eq_true_eq];exact ⟨h,hm⟩)
    · left;omega
end
end My
end
section
-- text: QB
set_option Elab.async false
set_option linter.all false
set_option maxRecDepth 100000
set_option maxHeartbeats 4000000
namespace My
open PySem L2 Dg
noncomputable def Kd (K:PySem.W.Frag) (H:Hp) (e:V):Prop:=∃T,zdT K H e T
theorem zfI {ns:List Nat} (h:∀n∈ns,n<100) (hl:ns.length≤100):DOk (.tuple (ns.map fun n:Nat=>PyData.int (n:Int))) (2^20):=by
  obtain ⟨b1,b2,b3,b4,b5⟩:=zfF h
  refine ⟨b1,b2,?_,b4,?_⟩
  · show PyData.depthAll _+1≤40
    rw [b3];decide
  · show PyData.weightAll _≤2^20
    have:(2:Nat)^20=1048576:=by decide
    omega
section
variable {P:Program} {w:World} {K:PySem.W.Frag} {mg:Str→Option Value} {base:Heap} {f:Addr} {fd:FuncData}
end
end My
end
section
-- text: Q23
set_option Elab.async false
set_option linter.all false
set_option maxRecDepth 100000
set_option maxHeartbeats 4000000
namespace My
open PySem L2 Dg
theorem Tab.fld {K:PySem.W.Frag} {H:Hp} {tb fa pa la:Addr} {p m t b:Nat} (T:Tab H tb fa pa la p m t b):Fld K H fa p m t:=SqT.of T.f
noncomputable def isI:V→Bool
  | .int _=>true
  | _=>false
theorem zeO {K:PySem.W.Frag} {H:Hp} {z:V} (h:zdT K H z "int"):∃i,z = .int i:=by
  rcases h with h | ⟨e,_⟩
  · cases z with
    | int i=>exact ⟨i,rfl⟩
    | ref a=>rcases h with ⟨e,_⟩ | ⟨e,_⟩ <;> exact absurd e (by decide)
    | non=>exact absurd (show "int" = "NoneType" from h) (by decide)
    | bl b=>exact absurd (show "int" = "bool" from h) (by decide)
    | str b=>exact absurd (show "int" = "str" from h) (by decide)
    | _=>exact False.elim h
  · exact absurd e (by decide)
theorem ze1 {K:PySem.W.Frag} {H:Hp} {z:V} {T:String} (h:zdT K H z T):(T=="int")=isI z:=by
  by_cases c:T = "int"
  · subst c
    obtain ⟨i,rfl⟩:=zeO h
    rfl
  · rw [show (T=="int")=false from by simpa using c]
    cases z with
    | int i =>
      rcases h with h | ⟨_,a,_,e,_⟩
      · exact absurd h c
      · cases e
    | _=>rfl
theorem ybZ {z:V} (h:isI z=true):∃i,z = .int i:=by
  cases z with
  | int i=>exact ⟨i,rfl⟩
  | _=>cases h
noncomputable def Res (K:PySem.W.Frag) (H:Hp) (fn:List V→Bool) (x:V) (b:Bool):Prop:=(∃T,zdT K H x T∧T≠"tuple"∧b=false)∨∃a xs,x = .ref a∧SqT K H a xs∧xs.length≤200∧(∀e∈xs,Kd K H e)∧b=fn xs
section
variable {P:Program} {w:World} {K:PySem.W.Frag} {mg:Str→Option Value} {base:Heap} {f:Addr} {fd:FuncData}
noncomputable def zfl (K:PySem.W.Frag):Sp:=fun vs H Q _=>∃(x:V) (T:String),vs=[x]∧zdT K H x T∧Q (.bl (T=="int")) H
theorem zdt:zak ["thing"] ["thing"] (zac ya5):=⟨rfl,rfl,rfl,by decide +kernel,rfl,by decide +kernel,by decide +kernel⟩
theorem yf7 (B:Bl mg) (F:Fun K "is_whole" "is_whole" ya5 f fd):FnOk P w K mg base CX0 1 f fd ["thing"] (zfl K):=by
  refine F.ok zdt (fun vs H Q E h=>?_) (fun cdv A outer s H vs Q E hr h=>?_)
  · obtain ⟨x,T,rfl,_⟩:=h;rfl
  obtain ⟨x,T,rfl,hk,q⟩:=h
  refine ⟨_,(@zad _ _ _ (@yal _ _ _ _ (@ycQ _ _ _ _ _ _ _ (@yan _ _ _ _ _ _ _ _ _ zeQ rfl (B "isinstance" (by decide)) PyProof.Rows.boot_isinstance (@zaa _ _ _ _ _ (pv 0) (@zaa _ _ _ _ _ (@zcE _ _ _ _ _ rfl (B "int" (by decide)) yb8 (id (α:=RelV (.ty "int") (.type "int")) rfl) (by decide) (by decide)) yab (by rfl)) (by rfl)) (by decide) (by decide) (by rfl) (by rfl)) (@yeg _ _ _ _ _ (@zfb _ _ _ _ (@yan _ _ _ _ _ _ _ _ _ zeL rfl (B "isinstance" (by decide)) PyProof.Rows.boot_isinstance (@zaa _ _ _ _ _ (pv 0) (@zaa _ _ _ _ _ (@zcE _ _ _ _ _ rfl (B "bool" (by decide)) yc9 (id (α:=RelV (.ty "bool") (.type "bool")) rfl) (by decide) (by decide)) yab (by rfl)) (by rfl)) (by decide) (by decide) (by rfl) (by rfl))))))),?_⟩
  refine ⟨_,rfl,x,T,rfl,hk,_,rfl,?_⟩
  refine ite2 (fun c=>?_) (fun c=>?_)
  · refine ⟨_,rfl,x,T,rfl,hk,_,rfl,?_⟩
    have e:(!subK T "bool")=(T=="int"):=by
      by_cases h:T = "int"
      · subst h;decide
      · have h2:T = "bool":=by
          unfold subK at c
          simp [h] at c
          exact c
        subst h2;decide
    rw [e];exact q
  · have e:(T=="int")=false:=by
      cases h:(T=="int") with
      | false=>rfl
      | true=>exact absurd (by unfold subK;rw [h];rfl) c
    rw [e] at q;exact q
noncomputable def yc1 (K:PySem.W.Frag):Sp:=fun vs H Q _=>∃(x:V) (c:Nat) (b:Bool),vs=[x,Vn c]∧Res K H (fun xs=>decide (xs.length=c)&&xs.all isI) x b∧∀H',Same H H'→Q (.bl b) H'
theorem zcR:zak ["thing","many"] ["thing","many"] (zac yaO):=⟨rfl,rfl,rfl,by decide +kernel,rfl,by decide +kernel,by decide +kernel⟩
theorem yeG (B:Bl mg) (h_is_whole:Has P w K mg base 1 "is_whole" ["thing"] (zfl K)) (F:Fun K "is_wholes" "is_wholes" yaO f fd):FnOk P w K mg base CX0 2 f fd ["thing","many"] (yc1 K):=by
  refine F.ok zcR (fun vs H Q E h=>?_) (fun cdv A outer s H vs Q E hr h=>?_)
  · obtain ⟨x,c,b,rfl,_⟩:=h;rfl
  obtain ⟨x,c,b,rfl,hx,q⟩:=h
  refine ⟨_,(@yaa _ _ _ _ _ (@ya0 _ _ _ _ _ _ _ _ (@PW.pt _ _ _ (@ycL _ _ _ _ _ _ _ (@zc7 _ _ _ _ (@ycZ _ _ _ (@yan _ _ _ _ _ _ _ _ _ zdZ rfl (B "isinstance" (by decide)) PyProof.Rows.boot_isinstance (@zaa _ _ _ _ _ (pv 0) (@zaa _ _ _ _ _ (@zcE _ _ _ _ _ rfl (B "tuple" (by decide)) ybL (id (α:=RelV (.ty "tuple") (.type "tuple")) rfl) (by decide) (by decide)) yab (by rfl)) (by rfl)) (by decide) (by decide) (by rfl) (by rfl)) (by intro _;rfl))) (@zbG _ _ _ _ (@zah _ _ _ _ _ _ _ _ yc2 (@yan _ _ _ _ _ _ _ _ _ yaz rfl (B "len" (by decide)) PySem.boot_len (@zaa _ _ _ _ _ (pv 0) yab (by rfl)) (by decide) (by decide) (by rfl) (by rfl)) (pv 1) (yai _))))) (@zad _ _ _ (@yal _ _ _ _ zcM)) zat) (@zad _ _ _ (@yal _ _ _ _ (@yan _ _ _ _ _ _ _ _ _ (zcD rfl) rfl (B "all" (by decide)) PyProof.Rows.boot_all (@zaa _ _ _ _ _ (@zbm _ _ _ _ _ _ _ ["part"] [] [] _ _ _ _ (id (α:=CSc ["thing","many"] (zac yaO) ["part"] [] [] _) ⟨by rfl,by decide +kernel,by decide +kernel,by decide +kernel,by decide +kernel,by rfl,by decide +kernel⟩) rfl (@zfS _ _ _ _ (pv 0)) (fun cl C fp s H=>(@zaf _ _ 0 _ (by show List.Nodup (["part"]:List Str);decide +kernel) rfl (Or.inl rfl) (by first|exact .inl rfl|exact .inr rfl|assumption))) (fun _ _ _ _ _=>yba) (fun _ _ _ _ _=>(@zae _ _ _ _ _ _ _ _ _ _ _ h_is_whole hr (by decide) rfl (@zaa _ _ _ _ _ (pv 0) yab (by rfl)) (by decide) (by rfl) (by rfl))) (by intro _;rfl)) yab (by rfl)) (by decide) (by decide) (by rfl) (by rfl))))),?_⟩
  rcases hx with ⟨T,hk,hT,rfl⟩ | ⟨a,xs,rfl,ha,hl,hkd,rfl⟩
  · refine ⟨_,rfl,x,T,rfl,hk,_,rfl,?_⟩
    have e:subK T "tuple"=false:=by unfold subK;simp [hT]
    rw [e]
    refine ite2 (fun _=>?_) (fun c=>absurd rfl c)
    refine ite2 (fun _=>?_) (fun c=>absurd rfl c)
    exact q _ (Same.refl _)
  refine ⟨_,rfl,.ref a,"tuple",rfl,.inl (.inr ⟨rfl,xs,ha⟩),_,rfl,?_⟩
  refine ite2 (fun c=>absurd c (by decide)) (fun _=>?_)
  refine ⟨_,rfl,a,xs,rfl,.inr ha,_,rfl,?_⟩
  have ed:decide (V.int (xs.length:Int)=Vn c)=decide (xs.length=c):=decide_eq_decide.mpr ⟨fun e=>by injection e with e;omega,fun e=>by rw [e]⟩
  refine ⟨rfl,_,rfl,?_⟩
  rw [ed]
  dsimp only at q
  by_cases hc:xs.length=c
  · rw [decide_eq_true hc] at q ⊢
    rw [Bool.true_and] at q
    refine ite2 (fun c=>absurd c (by decide)) (fun _=>?_)
    dsimp only [zdn]
    refine ⟨_,rfl,a,rfl,⟨_,ha⟩,?_⟩
    refine zaE (ze6 (xs:=xs)) (fun i acc H'=>H'=H∧acc=(xs.take i).map fun e=>V.bl (isI e)) ⟨rfl,rfl⟩ (fun i acc H' _ h=>by rw [h.1];exact ha) ?_ ?_ ?_
    · rintro i acc H' hi ⟨_,rfl⟩
      rw [List.length_map,List.length_take];exact zap (by omega)
    · rintro i acc z H2 H2' hi ⟨rfl,rfl⟩ ⟨rfl,ez⟩
      obtain ⟨T,hk⟩:=hkd z (List.mem_of_getElem? ez)
      refine ⟨_,rfl,z,T,rfl,hk,rfl,?_⟩
      rw [zbr ez,List.map_append,ze1 hk];rfl
    · rintro acc H2 ⟨rfl,rfl⟩ D hD
      rw [List.take_length]
      refine ⟨D,xs.map isI,rfl,SqL.of (by rw [yac,List.map_map];rfl),?_⟩
      have e:(xs.map isI).all id=xs.all isI:=by rw [List.all_map];rfl
      dsimp only
      rw [e]
      exact q _ (yad hD _)
  · rw [decide_eq_false hc] at q ⊢
    refine ite2 (fun _=>?_) (fun c=>absurd rfl c)
    exact q _ (Same.refl _)
noncomputable def stB (n:Nat) (f s:Int):Bool:=decide (0≤f∧f<n∧1≤s∧s≤n∧Nat.gcd s.toNat n=1)
noncomputable def ydD:Sp:=fun vs H Q _=>∃(n:Nat) (f s:Int),vs=[Vn n,.int f,.int s]∧Q (.bl (stB n f s)) H
theorem ydp:zak ["n","first","step"] ["n","first","step"] (zac ya6):=⟨rfl,rfl,rfl,by decide +kernel,rfl,by decide +kernel,by decide +kernel⟩
theorem zeT (B:Bl mg) (h_greatest_common:Has P w K mg base 1 "greatest_common" ["one","other"] ycd) (F:Fun K "is_start" "is_start" ya6 f fd):FnOk P w K mg base CX0 2 f fd ["n","first","step"] ydD:=by
  refine F.ok ydp (fun vs H Q E h=>?_) (fun cdv A outer s H vs Q E hr h=>?_)
  · obtain ⟨n,f,s,rfl,_⟩:=h;rfl
  obtain ⟨n,f,s,rfl,q⟩:=h
  refine ⟨_,(@zad _ _ _ (@yal _ _ _ _ (@ycQ _ _ _ _ _ _ _ (@ydz _ _ _ _ _ _ _ _ _ _ _ _ ybW ydY zab (pv 1) (pv 0) (by with_unfolding_all rfl)) (@ycQ _ _ _ _ _ _ _ (@ydz _ _ _ _ _ _ _ _ _ _ _ _ ybW ybW zab (pv 2) (pv 0) (by with_unfolding_all rfl)) (@yeg _ _ _ _ _ (@zbP _ _ _ _ _ _ _ _ yby (@zae _ _ _ _ _ _ _ _ _ _ _ h_greatest_common hr (by decide) rfl (@zaa _ _ _ _ _ (pv 2) (@zaa _ _ _ _ _ (pv 0) yab (by rfl)) (by rfl)) (by decide) (by rfl) (by rfl)) zab (yai _))))))),?_⟩
  have no:¬ (0≤f∧f<n∧1≤s∧s≤n∧Nat.gcd s.toNat n=1)→Q (.bl false) H:=fun h=>by
    unfold stB at q;rw [decide_eq_false h] at q;exact q
  refine ⟨_,rfl,_,_,rfl,rfl,_,rfl,?_⟩
  refine ite2 (fun c1=>?_) (fun c1=>⟨false,rfl,ite2 (fun c=>absurd c (by decide)) fun _=>no fun h=>c1 (decide_eq_true h.1)⟩)
  refine ⟨_,rfl,_,_,rfl,rfl,_,rfl,?_⟩
  refine ite2 (fun c2=>?_) (fun c2=>no fun h=>c2 (decide_eq_true h.2.1))
  refine ⟨_,rfl,_,_,rfl,rfl,_,rfl,?_⟩
  refine ite2 (fun c3=>?_) (fun c3=>⟨false,rfl,ite2 (fun c=>absurd c (by decide)) fun _=>no fun h=>c3 (decide_eq_true h.2.2.1)⟩)
  refine ⟨_,rfl,_,_,rfl,rfl,_,rfl,?_⟩
  refine ite2 (fun c4=>?_) (fun c4=>no fun h=>c4 (decide_eq_true h.2.2.2.1))
  have c1:=of_decide_eq_true c1
  have c2:=of_decide_eq_true c2
  have c3:=of_decide_eq_true c3
  have c4:=of_decide_eq_true c4
  obtain ⟨k,rfl⟩:=Int.eq_ofNat_of_zero_le (show 0≤s by omega)
  refine ⟨_,rfl,_,rfl,k,n,rfl,rfl,?_⟩
  rw [zbx]
  unfold stB at q
  have e:decide (Nat.gcd k n=1)=decide (0≤f∧f<n∧1≤(k:Int)∧(k:Int)≤n∧Nat.gcd (k:Int).toNat n=1):=decide_eq_decide.mpr ⟨fun h=>⟨c1,c2,c3,c4,by rw [Int.toNat_natCast];exact h⟩,fun h=>by have:=h.2.2.2.2;rw [Int.toNat_natCast] at this;exact this⟩
  rw [e]
  exact q
end
end My
end
section
-- text: Q25
set_option Elab.async false
set_option linter.all false
set_option maxRecDepth 100000
set_option maxHeartbeats 4000000
namespace My
open PySem L2 Dg
noncomputable def wdC (n:Nat) (f s r a o:Int):Prop:=0≤f∧f<n∧1≤s∧s≤n∧Nat.gcd s.toNat n=1∧1≤r∧r≤n∧1≤a∧a≤n∧0≤o∧o≤n∧(Nat.gcd a.toNat n:Int)≤r
instance {n:Nat} {f s r a o:Int}:Decidable (wdC n f s r a o):=by unfold wdC;exact inferInstance
noncomputable def wdM (n:Nat) (marks:List Nat) (f s r a o:Nat):Bool:=(List.range r).all fun k=>(List.range (o+1)).all fun j=>decide ((f+k*s+j*a)%n∈marks)
noncomputable def zc1 (n:Nat) (marks:List Nat) (f s r a o:Int):Bool:=decide (wdC n f s r a o)&&wdM n marks f.toNat s.toNat r.toNat a.toNat o.toNat
noncomputable def widL (n:Nat) (marks:List Nat):List V→Bool
  | [.int f,.int s,.int r,.int a,.int o]=>zc1 n marks f s r a o
  | _=>false
theorem five {xs:List V} (hl:xs.length=5) (h:xs.all isI=true):∃f s r a o,xs=[.int f,.int s,.int r,.int a,.int o]:=by
  match xs,hl with
  | [a,b,c,d,e],_ =>
    simp only [List.all_cons,List.all_nil,Bool.and_true,Bool.and_eq_true] at h
    obtain ⟨h1,h2,h3,h4,h5⟩:=h
    obtain ⟨i,rfl⟩:=ybZ h1
    obtain ⟨j,rfl⟩:=ybZ h2
    obtain ⟨k,rfl⟩:=ybZ h3
    obtain ⟨l,rfl⟩:=ybZ h4
    obtain ⟨m,rfl⟩:=ybZ h5
    exact ⟨_,_,_,_,_,rfl⟩
theorem zfC {n:Nat} {marks:List Nat} {xs:List V} (h:¬ (xs.length=5∧xs.all isI=true)):widL n marks xs=false:=by
  unfold widL
  split
  · exact absurd ⟨rfl,rfl⟩ h
  · rfl
noncomputable def wBj (n:Nat) (marks:List Nat) (f s d k j:Nat):List Bool:=(List.range j).map fun j=>decide ((f+k*s+j*d)%n∈marks)
noncomputable def wBk (n:Nat) (marks:List Nat) (f s d o k:Nat):List Bool:=((List.range k).map fun k=>wBj n marks f s d k (o+1)).flatten
theorem ye4 (n:Nat) (marks:List Nat) (f s d k j:Nat):wBj n marks f s d k (j+1)=wBj n marks f s d k j++[decide ((f+k*s+j*d)%n∈marks)]:=by
  unfold wBj;rw [List.range_succ,List.map_append];rfl
theorem zdO (n:Nat) (marks:List Nat) (f s d o k:Nat):wBk n marks f s d o (k+1)=wBk n marks f s d o k++wBj n marks f s d k (o+1):=by
  unfold wBk;rw [List.range_succ,List.map_append,List.flatten_append];simp
theorem zfx (n:Nat) (marks:List Nat) (f s r d o:Nat):(wBk n marks f s d o r).all id=wdM n marks f s r d o:=by
  unfold wBk wdM wBj
  rw [List.all_flatten,List.all_map]
  congr 1
  funext k
  show (List.map _ _).all id=_
  rw [List.all_map];rfl
section
variable {P:Program} {w:World} {K:PySem.W.Frag} {mg:Str→Option Value} {base:Heap} {f:Addr} {fd:FuncData}
noncomputable def ycW (K:PySem.W.Frag):Sp:=fun vs H Q _=>∃(wh fa mk:Addr) (p m t few root n:Nat) (marks:List Nat) (x:V) (b:Bool),vs=[.ref wh,x]∧WhAt H wh fa mk few root marks∧Fld K H fa p m t∧Good p m t∧Whl p m t few root n marks∧Res K H (widL n marks) x b∧∀H',Same H H'→Q (.bl b) H'
theorem yaB:zak ["wheel","thing","first","step","many","far","often","n"] ["wheel","thing"] (zac zaG):=⟨rfl,rfl,rfl,by decide +kernel,rfl,by decide +kernel,by decide +kernel⟩
theorem zd8 (B:Bl mg) (h_is_wholes:Has P w K mg base 2 "is_wholes" ["thing","many"] (yc1 K)) (h_length:Has P w K mg base 5 "length" ["wheel"] (zbJ K)) (h_is_start:Has P w K mg base 2 "is_start" ["n","first","step"] ydD) (h_greatest_common:Has P w K mg base 1 "greatest_common" ["one","other"] ycd) (F:Fun K "shows_wide" "shows_wide" zaG f fd):FnOk P w K mg base CX0 6 f fd ["wheel","thing"] (ycW K):=by
  refine F.ok yaB (fun vs H Q E h=>?_) (fun cdv A outer s H vs Q E hr h=>?_)
  · obtain ⟨wh,fa,mk,p,m,t,few,root,n,marks,x,b,rfl,_⟩:=h;rfl
  obtain ⟨wh,fa,mk,p,m,t,few,root,n,marks,x,b,rfl,hW,hF,G,W,hx,q⟩:=h
  have hQ:=G.hq
  have hn:=W.nq
  have hn1:=W.ord.pos
  refine ⟨_,(@yaa _ _ _ _ _ (@ya0 _ _ _ _ _ _ _ _ (@zc7 _ _ _ _ (@ycZ _ _ _ (@zae _ _ _ _ _ _ _ _ _ _ _ h_is_wholes hr (by decide) rfl (@zaa _ _ _ _ _ (pv 1) (@zaa _ _ _ _ _ zab yab (by rfl)) (by rfl)) (by decide) (by rfl) (by rfl)) (by intro _;rfl))) (@zad _ _ _ (@yal _ _ _ _ zcM)) zat) (@yaa _ _ _ _ _ (@ybn _ _ _ _ _ _ (pv 1) (@zbo _ _ _ _ _ _ rfl (@yak _ _ _ _ _ (@zaf _ _ 2 _ yaB.nd rfl (Or.inr rfl) (by first|exact .inl rfl|exact .inr rfl|assumption)) (@yak _ _ _ _ _ (@zaf _ _ 3 _ yaB.nd rfl (Or.inr rfl) (by first|exact .inl rfl|exact .inr rfl|assumption)) (@yak _ _ _ _ _ (@zaf _ _ 4 _ yaB.nd rfl (Or.inl rfl) (by first|exact .inl rfl|exact .inr rfl|assumption)) (@yak _ _ _ _ _ (@zaf _ _ 5 _ yaB.nd rfl (Or.inr rfl) (by first|exact .inl rfl|exact .inr rfl|assumption)) (@yak _ _ _ _ _ (@zaf _ _ 6 _ yaB.nd rfl (Or.inr rfl) (by first|exact .inl rfl|exact .inr rfl|assumption)) za1 (by rfl)) (by rfl)) (by rfl)) (by rfl)) (by rfl)) (by rfl) (by rfl)) (by rfl) (by rfl) (by rfl)) (@yaa _ _ _ _ _ (@yag _ _ 7 _ _ _ _ yaB.nd rfl (Or.inr rfl) (@zae _ _ _ _ _ _ _ _ _ _ _ h_length hr (by decide) rfl (@zaa _ _ _ _ _ (pv 0) yab (by rfl)) (by decide) (by rfl) (by rfl)) (by rfl) (by first|exact .inl rfl|exact .inr rfl|assumption)) (@yaa _ _ _ _ _ (@ya0 _ _ _ _ _ _ _ _ (@PW.pt _ _ _ (@ycL _ _ _ _ _ _ _ (@zc7 _ _ _ _ (@ycZ _ _ _ (@zae _ _ _ _ _ _ _ _ _ _ _ h_is_start hr (by decide) rfl (@zaa _ _ _ _ _ (pv 7) (@zaa _ _ _ _ _ (pv 2) (@zaa _ _ _ _ _ (pv 3) yab (by rfl)) (by rfl)) (by rfl)) (by decide) (by rfl) (by rfl)) (by intro _;rfl))) (@zbG _ _ _ _ (@zc7 _ _ _ _ (@PW.pt _ _ _ (@ybU _ _ _ _ _ _ _ (@yct _ _ _ _ _ _ _ _ _ _ _ _ ybW ybW zab (pv 4) (pv 7) (by with_unfolding_all rfl)) (@ybU _ _ _ _ _ _ _ (@yct _ _ _ _ _ _ _ _ _ _ _ _ ybW ybW zab (pv 5) (pv 7) (by with_unfolding_all rfl)) (@zbC _ _ _ _ (@yct _ _ _ _ _ _ _ _ _ _ _ _ ybW ybW zab (pv 6) (pv 7) (by with_unfolding_all rfl)))))))))) (@zad _ _ _ (@yal _ _ _ _ zcM)) zat) (@yaa _ _ _ _ _ (@ya0 _ _ _ _ _ _ _ _ (@zah _ _ _ _ _ _ _ _ zby (@zae _ _ _ _ _ _ _ _ _ _ _ h_greatest_common hr (by decide) rfl (@zaa _ _ _ _ _ (pv 5) (@zaa _ _ _ _ _ (pv 7) yab (by rfl)) (by rfl)) (by decide) (by rfl) (by rfl)) (pv 4) (yai _)) (@zad _ _ _ (@yal _ _ _ _ zcM)) zat) (@zad _ _ _ (@yal _ _ _ _ (@yan _ _ _ _ _ _ _ _ _ (zcD rfl) rfl (B "all" (by decide)) PyProof.Rows.boot_all (@zaa _ _ _ _ _ (zes (tg:=["k","j"]) (cp:=["often","n","wheel","first","far","step"]) (ci:=[6,7,0,2,5,3]) (id (α:=CSc ["wheel","thing","first","step","many","far","often","n"] (zac zaG) ["k","j"] ["often","n","wheel","first","far","step"] [6,7,0,2,5,3] _) ⟨by rfl,by decide +kernel,by decide +kernel,by decide +kernel,by decide +kernel,by rfl,by decide +kernel⟩) rfl (yay rfl (B "range" (by decide)) (zaa (pv 4) yab)) (fun cl C fp s H=>(zaf (i:=0) (by show List.Nodup (["k","j","often","n","wheel","first","far","step"]:List Str);decide +kernel) rfl (Or.inl rfl))) (fun _ _ _ _ _=>(yay rfl (B "range" (by decide)) (zaa (zag zao (pv 2) zab) yab))) (fun cl C fp s H=>(zaf (i:=1) (by show List.Nodup (["k","j","often","n","wheel","first","far","step"]:List Str);decide +kernel) rfl (Or.inl rfl))) (fun _ _ _ _ _=>(zbP (zdY (K:=K) rfl) (zag zav (zag zao (zag zao (pv 5) (zag yaL (pv 0) (pv 7))) (zag yaL (pv 1) (pv 6))) (pv 3)) (zan (zcH (K:=K) rfl) (pv 4) zab (fun _ _=>rfl)) (by with_unfolding_all rfl)))) yab (by rfl)) (by decide) (by decide) (by rfl) (by rfl))))))))),?_⟩
  rcases hx with ⟨T,hk,hT,rfl⟩ | ⟨a,xs,rfl,ha,hl,hkd,rfl⟩
  · refine ⟨_,rfl,x,5,false,rfl,.inl ⟨T,hk,hT,rfl⟩,fun H1 s1=>?_⟩
    refine ⟨false,rfl,?_⟩
    refine ite2 (fun _=>?_) (fun c=>absurd rfl c)
    exact q _ s1
  refine ⟨_,rfl,.ref a,5,_,rfl,.inr ⟨a,xs,rfl,ha,hl,hkd,rfl⟩,fun H1 s1=>?_⟩
  refine ⟨_,rfl,?_⟩
  dsimp only
  by_cases h3:xs.length=5∧xs.all isI=true
  case neg =>
    rw [zfC h3] at q
    have e:(decide (xs.length=5)&&xs.all isI)=false:=by
      rw [Bool.eq_false_iff];intro h;rw [Bool.and_eq_true,decide_eq_true_eq] at h;exact h3 h
    exact ite2 (fun _=>q _ s1) (fun c=>absurd (by rw [e];rfl) c)
  obtain ⟨f,s,r,d,o,rfl⟩:=five h3.1 h3.2
  have ea:(decide ([V.int f,V.int s,V.int r,V.int d,V.int o].length=5)&&[V.int f,V.int s,V.int r,V.int d,V.int o].all isI)=true:=rfl
  refine ite2 (fun c=>absurd c (by rw [ea];decide)) (fun _=>?_)
  dsimp only [zdn]
  refine ⟨_,rfl,a,_,rfl,Same.tup s1 ha,rfl,_,_,rfl,_,_,rfl,_,_,rfl,_,_,rfl,_,_,rfl,rfl,?_⟩
  have hW1:=hW.same s1
  refine ⟨_,rfl,wh,fa,p,m,t,few,root,.ref mk,rfl,SqT.of hW1.w,Same.tup s1 hF,G,W.r0,W.rq,fun n' o' hn'=>?_⟩
  cases o'.uniq W.ord
  dsimp only [zas]
  change ∀H',Same H H'→Q (.bl (zc1 n marks f s r d o)) H' at q
  have no:¬ wdC n f s r d o→Q (.bl false) H1:=fun h=>by
    have e:zc1 n marks f s r d o=false:=by unfold zc1;rw [decide_eq_false h];rfl
    rw [e] at q;exact q _ s1
  refine yeL (b1:=!stB n f s) (b2:=!(decide (1≤r∧r≤(n:Int))&&(decide (1≤d∧d≤(n:Int))&&decide (0≤o∧o≤(n:Int))))) (fun Q q=>⟨_,rfl,_,rfl,_,rfl,n,f,s,rfl,_,rfl,q⟩) (fun Q q=>?_) ?_
  · refine zcC (b1:=decide (1≤r∧r≤(n:Int))) (b2:=decide (1≤d∧d≤(n:Int))&&decide (0≤o∧o≤(n:Int))) (fun Q q=>?_) (fun _ Q q=>zcC (b1:=decide (1≤d∧d≤(n:Int))) (b2:=decide (0≤o∧o≤(n:Int))) (fun Q q=>?_) (fun _ Q q=>?_) q) q
    refine ⟨_,rfl,_,_,rfl,rfl,_,rfl,ite2 (fun c=>⟨_,rfl,_,_,rfl,rfl,_,rfl,?_⟩) (fun c=>⟨false,rfl,?_⟩)⟩
    · have e:decide (1≤r∧r≤(n:Int))=decide (r≤(n:Int)):=decide_eq_decide.mpr ⟨fun h=>h.2,fun h=>⟨of_decide_eq_true c,h⟩⟩
      rw [e] at q;exact q
    · have e:decide (1≤r∧r≤(n:Int))=false:=decide_eq_false fun h=>c (decide_eq_true h.1)
      rw [e] at q;exact q
    refine ⟨_,rfl,_,_,rfl,rfl,_,rfl,ite2 (fun c=>⟨_,rfl,_,_,rfl,rfl,_,rfl,?_⟩) (fun c=>⟨false,rfl,?_⟩)⟩
    · have e:decide (1≤d∧d≤(n:Int))=decide (d≤(n:Int)):=decide_eq_decide.mpr ⟨fun h=>h.2,fun h=>⟨of_decide_eq_true c,h⟩⟩
      rw [e] at q;exact q
    · have e:decide (1≤d∧d≤(n:Int))=false:=decide_eq_false fun h=>c (decide_eq_true h.1)
      rw [e] at q;exact q
    refine ⟨_,rfl,_,_,rfl,rfl,_,rfl,ite2 (fun c=>⟨_,rfl,_,_,rfl,rfl,_,rfl,?_⟩) (fun c=>⟨false,rfl,?_⟩)⟩
    · have e:decide (0≤o∧o≤(n:Int))=decide (o≤(n:Int)):=decide_eq_decide.mpr ⟨fun h=>h.2,fun h=>⟨of_decide_eq_true c,h⟩⟩
      rw [e] at q;exact q
    · have e:decide (0≤o∧o≤(n:Int))=false:=decide_eq_false fun h=>c (decide_eq_true h.1)
      rw [e] at q;exact q
  refine ite2 (fun c=>no fun h=>?_) (fun c=>?_)
  · obtain ⟨h1,h2,h3,h4,h5,h6,h7,h8,h9,h10,h11,h12⟩:=h
    unfold stB at c
    rw [decide_eq_true (⟨h1,h2,h3,h4,h5⟩:0≤f∧f<(n:Int)∧1≤s∧s≤(n:Int)∧Nat.gcd s.toNat n=1),decide_eq_true (⟨h6,h7⟩:1≤r∧r≤(n:Int)),decide_eq_true (⟨h8,h9⟩:1≤d∧d≤(n:Int)),decide_eq_true (⟨h10,h11⟩:0≤o∧o≤(n:Int))] at c
    exact absurd c (by decide)
  dsimp only [zdn]
  have c1:stB n f s=true:=by
    cases h:stB n f s with
    | true=>rfl
    | false=>exact absurd (by rw [h];rfl) c
  rw [c1,Bool.not_true,Bool.false_or,Bool.not_eq_true',Bool.not_eq_false,Bool.and_eq_true,Bool.and_eq_true,decide_eq_true_eq,decide_eq_true_eq,decide_eq_true_eq] at c
  have c1:=of_decide_eq_true c1
  obtain ⟨⟨r1,r2⟩,⟨d1,d2⟩,⟨o1,o2⟩⟩:=c
  obtain ⟨f,rfl⟩:=Int.eq_ofNat_of_zero_le c1.1
  obtain ⟨s,rfl⟩:=Int.eq_ofNat_of_zero_le (show 0≤s by omega)
  obtain ⟨r,rfl⟩:=Int.eq_ofNat_of_zero_le (show 0≤r by omega)
  obtain ⟨d,rfl⟩:=Int.eq_ofNat_of_zero_le (show 0≤d by omega)
  obtain ⟨o,rfl⟩:=Int.eq_ofNat_of_zero_le o1
  refine ⟨_,rfl,_,rfl,d,n,rfl,_,rfl,_,_,rfl,rfl,_,rfl,?_⟩
  refine ite2 (fun c=>no fun h=>?_) (fun c=>?_)
  · have:=h.2.2.2.2.2.2.2.2.2.2.2
    rw [Int.toNat_natCast] at this
    have c:=of_decide_eq_true c
    omega
  dsimp only [zdn]
  have c2:Nat.gcd d n≤r:=by
    rcases Nat.lt_or_ge r (Nat.gcd d n) with h|h
    · exact absurd (decide_eq_true (by omega)) c
    · exact h
  have eb:zc1 n marks (f:Int) (s:Int) (r:Int) (d:Int) (o:Int)=wdM n marks f s r d o:=by
    unfold zc1
    rw [decide_eq_true (show wdC n (f:Int) (s:Int) (r:Int) (d:Int) (o:Int) from ⟨c1.1,c1.2.1,c1.2.2.1,c1.2.2.2.1,c1.2.2.2.2,r1,r2,d1,d2,o1,o2,by rw [Int.toNat_natCast];omega⟩),Bool.true_and,Int.toNat_natCast,Int.toNat_natCast,Int.toNat_natCast,Int.toNat_natCast,Int.toNat_natCast]
  rw [eb] at q
  have lenk:∀k,(wBk n marks f s d o k).length=k*(o+1):=fun k=>by
    induction k with
    | zero=>simp [wBk]
    | succ k ih=>rw [zdO,List.length_append,ih,Nat.succ_mul];simp [wBj]
  have hko:∀k,k≤r→k*(o+1)≤64*65:=fun k hk=>Nat.mul_le_mul (by omega) (by omega)
  refine ⟨_,rfl,r,rfl,by omega,by omega,?_⟩
  refine zeE (yau (lo:=0) (n:=((r:Nat):Int).toNat)) (In:=fun acc N σ H=>tIn _ _ _ acc N σ H) (fun k acc H'=>H'=H1∧acc=(wBk n marks f s d o k).map V.bl) ⟨rfl,by simp [wBk]⟩ (fun _ _ _ _ _=>trivial) ?_ ?_
  · rintro k acc x H' H'' hk ⟨rfl,rfl⟩ ⟨rfl,rfl⟩
    rw [Int.toNat_natCast] at hk
    refine ⟨_,rfl,_,_,rfl,rfl,((o:Int)+1),rfl,by omega,by omega,?_⟩
    refine zf7 (yau (lo:=0) (n:=((o:Int)+1).toNat)) (fun j σ acc H'=>H'=H''∧acc=(wBk n marks f s d o k).map V.bl++(wBj n marks f s d k j).map V.bl∧∃sj,σ=[some (.int (0+(k:Int))),sj,some (.int (o:Int)),some (Vn n),some (.ref wh),some (.int (f:Int)),some (.int (d:Int)),some (.int (s:Int))]) ⟨rfl,by simp [wBj],none,rfl⟩ (fun _ _ _ _ _ _=>trivial) ?_ ?_ ?_
    · rintro j σ acc H' hj ⟨_,rfl,_⟩
      have h1:=lenk k
      have h2:=hko k (by omega)
      rw [List.length_append,List.length_map,List.length_map,h1]
      have:(wBj n marks f s d k j).length=j:=by simp [wBj]
      rw [this]
      exact szl _ (show k*(o+1)+j+1≤100000 by omega)
    · rintro j σ acc x Ha Hb hj ⟨rfl,rfl,sj,rfl⟩ ⟨rfl,rfl⟩
      have hj2:j<o+1:=by omega
      have hks:k*s≤64*64:=Nat.mul_le_mul (by omega) (by omega)
      have hjd:j*d≤65*64:=Nat.mul_le_mul (by omega) (by omega)
      refine ⟨_,rfl,_,rfl,_,rfl,_,_,rfl,rfl,.inl ⟨by show -(2^64:Int)<0+(k:Int);omega,by show 0+(k:Int)<2^64;omega⟩,_,_,rfl,rfl,_,rfl,_,rfl,_,_,rfl,rfl,.inl ⟨by show -(2^64:Int)<0+(j:Int);omega,by show 0+(j:Int)<2^64;omega⟩,_,_,rfl,rfl,_,rfl,_,_,rfl,rfl,by show (0:Int)<n;omega,?_⟩
      refine ⟨_,rfl,wh,_,_,.ref mk,rfl,rfl,SqT.of hW1.w,rfl,?_⟩
      refine ⟨mk,_,rfl,.inr (SqT.of hW1.k),rfl,ybN marks,?_⟩
      have e:inV (V.int (((f:Int)+(0+(k:Int))*(s:Int)+(0+(j:Int))*(d:Int))%(n:Int))) (marks.map Vn)=decide ((f+k*s+j*d)%n∈marks):=by
        rw [show ((f:Int)+(0+(k:Int))*(s:Int)+(0+(j:Int))*(d:Int))%(n:Int)=(((f+k*s+j*d)%n:Nat):Int) by rw [Int.zero_add,Int.zero_add];rfl]
        rw [zb1]
      refine ⟨rfl,?_,_,rfl⟩
      show _++[V.bl (inV (V.int (((f:Int)+(0+(k:Int))*(s:Int)+(0+(j:Int))*(d:Int))%(n:Int))) (marks.map Vn))]=_
      rw [e,ye4,List.map_append,List.append_assoc];rfl
    · rintro σ acc Ha ⟨rfl,rfl,sj,rfl⟩
      refine ⟨rfl,?_⟩
      rw [show ((o:Int)+1).toNat=o+1 by omega,zdO,List.map_append]
  · rw [Int.toNat_natCast]
    rintro acc H' ⟨rfl,rfl⟩ D hD
    refine ⟨D,wBk n marks f s d o r,rfl,SqL.of yac,?_⟩
    dsimp only
    rw [zfx]
    exact q _ (s1.trans (yad hD _))
end
end My
end
section
-- text: Q26
set_option Elab.async false
set_option linter.all false
set_option maxRecDepth 100000
set_option maxHeartbeats 4000000
namespace My
open PySem L2 Dg
noncomputable def rnN (marks:List Nat) (n f s:Nat):Nat:=Classical.choose (yfa marks n f s)
theorem zbN (marks:List Nat) (n f s:Nat):zcX marks n f s (rnN marks n f s):=Classical.choose_spec (yfa marks n f s)
theorem zfk {marks:List Nat} {n f s r:Nat} (h:zcX marks n f s r):r=rnN marks n f s:=h.uniq (zbN marks n f s)
noncomputable def IsAg (P:Nat→Prop) (n o:Nat):Prop:=o≤n∧(∀i,i<o→P i)∧(o=n∨¬ P o)
theorem IsAg.uniq {P:Nat→Prop} {n o o':Nat} (h:IsAg P n o) (h':IsAg P n o'):o=o':=by
  obtain ⟨a1,a2,a3⟩:=h
  obtain ⟨b1,b2,b3⟩:=h'
  rcases Nat.lt_trichotomy o o' with c|c|c
  · rcases a3 with e|e
    · omega
    · exact absurd (b2 o c) e
  · exact c
  · rcases b3 with e|e
    · omega
    · exact absurd (a2 o' c) e
theorem yfH (P:Nat→Prop):∀n,∃o,IsAg P n o
  | 0=>⟨0,Nat.le_refl _,fun i h=>absurd h (by omega),.inl rfl⟩
  | n+1=>by
    obtain ⟨o,h1,h2,h3⟩:=yfH P n
    by_cases c:o=n∧P n
    · exact ⟨n+1,Nat.le_refl _,fun i hi=>by
        rcases Nat.lt_or_ge i n with h|h
        · exact h2 i (by omega)
        · rw [show i=n by omega];exact c.2,.inl rfl⟩
    · refine ⟨o,by omega,h2,.inr fun hp=>?_⟩
      rcases h3 with e|e
      · exact c ⟨e,by rw [←e];exact hp⟩
      · exact e hp
noncomputable def agP (marks:List Nat) (n f s m a:Nat) (i:Nat):Prop:=m≤rnN marks n ((f+(i+1)*a)%n) s
noncomputable def agN (marks:List Nat) (n f s m a:Nat):Nat:=Classical.choose (yfH (agP marks n f s m a) n)
theorem zco (marks:List Nat) (n f s m a:Nat):IsAg (agP marks n f s m a) n (agN marks n f s m a):=Classical.choose_spec (yfH (agP marks n f s m a) n)
noncomputable def vN (marks:List Nat) (n f s m a:Nat):Nat:=m+agN marks n f s m a
noncomputable def lex4 (f s m a f' s' m' a':Nat):Prop:=f<f'∨(f=f'∧(s<s'∨(s=s'∧(m<m'∨(m=m'∧a≤a')))))
noncomputable abbrev P4:=Nat×Nat×Nat×Nat
noncomputable abbrev S4:=Nat→Nat→Nat→Nat→Prop
noncomputable def BW (marks:List Nat) (n:Nat) (D:S4):Option P4→Prop
  | none=>∀f s m a,¬ D f s m a
  | some (f,s,m,a)=>D f s m a∧∀f' s' m' a',D f' s' m' a'→vN marks n f' s' m' a'<vN marks n f s m a∨(vN marks n f' s' m' a'=vN marks n f s m a∧lex4 f s m a f' s' m' a')
theorem BW.weak {marks:List Nat} {n:Nat} {D D':S4} {b:Option P4} (h:BW marks n D b) (w:∀f s m a,D f s m a↔D' f s m a):BW marks n D' b:=by
  have e:D=D':=by funext f s m a;exact propext (w f s m a)
  rw [←e];exact h
theorem BW.uniq {marks:List Nat} {n:Nat} {D:S4} {b b':Option P4} (h:BW marks n D b) (h':BW marks n D b'):b=b':=by
  match b,b',h,h' with
  | none,none,_,_=>rfl
  | none,some (f,s,m,a),h,h'=>exact absurd h'.1 (h f s m a)
  | some (f,s,m,a),none,h,h'=>exact absurd h.1 (h' f s m a)
  | some (f,s,m,a),some (f',s',m',a'),h,h' =>
    have h1:=h.2 f' s' m' a' h'.1
    have h2:=h'.2 f s m a h.1
    have:f=f'∧s=s'∧m=m'∧a=a':=by unfold lex4 at h1 h2;omega
    obtain ⟨rfl,rfl,rfl,rfl⟩:=this
    rfl
noncomputable def D1 (D:S4) (f s m a:Nat):S4:=fun f' s' m' a'=>D f' s' m' a'∨(f'=f∧s'=s∧m'=m∧a'=a)
theorem BW.first {marks:List Nat} {n:Nat} {D:S4} {f s m a:Nat} (h:BW marks n D none):BW marks n (D1 D f s m a) (some (f,s,m,a)):=by
  refine ⟨.inr ⟨rfl,rfl,rfl,rfl⟩,fun f' s' m' a' hd=>?_⟩
  rcases hd with hd | ⟨rfl,rfl,rfl,rfl⟩
  · exact absurd hd (h _ _ _ _)
  · exact .inr ⟨rfl,by unfold lex4;omega⟩
theorem BW.take {marks:List Nat} {n:Nat} {D:S4} {f s m a g t k b:Nat} (h:BW marks n D (some (g,t,k,b))) (hv:vN marks n g t k b<vN marks n f s m a∨(vN marks n g t k b=vN marks n f s m a∧lex4 f s m a g t k b)):BW marks n (D1 D f s m a) (some (f,s,m,a)):=by
  refine ⟨.inr ⟨rfl,rfl,rfl,rfl⟩,fun f' s' m' a' hd=>?_⟩
  rcases hd with hd | ⟨rfl,rfl,rfl,rfl⟩
  · have:=h.2 f' s' m' a' hd
    unfold lex4 at this hv ⊢
    omega
  · exact .inr ⟨rfl,by unfold lex4;omega⟩
theorem BW.stay {marks:List Nat} {n:Nat} {D:S4} {f s m a g t k b:Nat} (h:BW marks n D (some (g,t,k,b))) (hv:vN marks n f s m a<vN marks n g t k b∨(vN marks n f s m a=vN marks n g t k b∧lex4 g t k b f s m a)):BW marks n (D1 D f s m a) (some (g,t,k,b)):=by
  refine ⟨.inl h.1,fun f' s' m' a' hd=>?_⟩
  rcases hd with hd | ⟨rfl,rfl,rfl,rfl⟩
  · exact h.2 f' s' m' a' hd
  · exact hv
noncomputable def Pw (marks:List Nat) (n f s m a:Nat):Prop:=1≤m∧m≤rnN marks n f s∧1≤a∧a≤n∧Nat.gcd a n≤m
noncomputable def PwAt (marks:List Nat) (n f s:Nat) (H:Hp) (x:V) (q:Nat×Nat):Prop:=∃r:Addr,x = .ref r∧H r=some (.tup ([f,s,q.1,q.2,agN marks n f s q.1 q.2].map Vn))
noncomputable def lex2 (p q:Nat×Nat):Prop:=p.1<q.1∨(p.1=q.1∧p.2<q.2)
structure Paps (marks:List Nat) (n f s:Nat) (H:Hp) (xs:List V) (L:List (Nat×Nat)):Prop where
  len:xs.length=L.length
  at_:∀(k:Nat) (x:V) (q:Nat×Nat),xs[k]?=some x→L[k]?=some q→PwAt marks n f s H x q
theorem PwAt.same {marks:List Nat} {n f s:Nat} {H H':Hp} {x:V} {q:Nat×Nat} (h:PwAt marks n f s H x q) (e:Same H H'):PwAt marks n f s H' x q:=by
  obtain ⟨r,h1,h2⟩:=h
  exact ⟨r,h1,e _ _ h2⟩
theorem PwAt.upd {marks:List Nat} {n f s:Nat} {H:Hp} {x:V} {q:Nat×Nat} {l:Addr} {ys:List V} {o:HO} (h:PwAt marks n f s H x q) (e:H l=some (.lst ys)):PwAt marks n f s (L2.upd H l o) x q:=by
  obtain ⟨r,h1,h2⟩:=h
  refine ⟨r,h1,?_⟩
  rw [yaf (fun z=>by rw [z,e] at h2;cases h2)];exact h2
theorem Paps.snoc {marks:List Nat} {n f s:Nat} {H H':Hp} {xs:List V} {L:List (Nat×Nat)} {x:V} {q:Nat×Nat} (h:Paps marks n f s H xs L) (up:∀ {x q},PwAt marks n f s H x q→PwAt marks n f s H' x q) (hx:PwAt marks n f s H' x q):Paps marks n f s H' (xs++[x]) (L++[q]):=by
  refine ⟨by rw [List.length_append,List.length_append,h.len];rfl,fun k y p hy hp=>?_⟩
  by_cases c:k<xs.length
  · rw [List.getElem?_append_left c] at hy
    rw [List.getElem?_append_left (by rw [←h.len];exact c)] at hp
    exact up (h.at_ k y p hy hp)
  · rw [List.getElem?_append_right (by omega)] at hy
    rw [List.getElem?_append_right (by rw [←h.len];omega),←h.len] at hp
    cases d:k-xs.length with
    | zero=>rw [d] at hy hp;cases hy;cases hp;exact hx
    | succ j=>rw [d] at hy;cases hy
theorem Paps.mono {marks:List Nat} {n f s:Nat} {H H':Hp} {xs:List V} {L:List (Nat×Nat)} (h:Paps marks n f s H xs L) (up:∀ {x q},PwAt marks n f s H x q→PwAt marks n f s H' x q):Paps marks n f s H' xs L:=⟨h.len,fun k x q a b=>up (h.at_ k x q a b)⟩
section
variable {P:Program} {w:World} {K:PySem.W.Frag} {mg:Str→Option Value} {base:Heap} {f:Addr} {fd:FuncData}
noncomputable def zfm (K:PySem.W.Frag):Sp:=fun vs H Q _=>∃(ra:Addr) (n f s m a:Nat) (marks:List Nat),vs=[.ref ra,Vn f,Vn m,Vn a]∧SqL K H ra (((List.range n).map fun i=>rnN marks n i s).map Vn)∧0<n∧n≤64∧f≤64∧a≤64∧Q (Vn (agN marks n f s m a)) H
theorem za2:zak ["runs","first","many","far","n","often"] ["runs","first","many","far"] (zac yaQ):=⟨rfl,rfl,rfl,by decide +kernel,rfl,by decide +kernel,by decide +kernel⟩
theorem zfW (B:Bl mg) (F:Fun K "runs_again" "runs_again" yaQ f fd):FnOk P w K mg base CX0 1 f fd ["runs","first","many","far"] (zfm K):=by
  refine F.ok za2 (fun vs H Q E h=>?_) (fun cdv A outer s H vs Q E hr h=>?_)
  · obtain ⟨ra,n,f,s,m,a,marks,rfl,_⟩:=h;rfl
  obtain ⟨ra,n,f,s,m,a,marks,rfl,hra,hn1,hn,hf,ha,q⟩:=h
  refine ⟨_,(@yaa _ _ _ _ _ (@yag _ _ 4 _ _ _ _ za2.nd rfl (Or.inl rfl) (@yan _ _ _ _ _ _ _ _ _ yaz rfl (B "len" (by decide)) PySem.boot_len (@zaa _ _ _ _ _ (pv 0) yab (by rfl)) (by decide) (by decide) (by rfl) (by rfl)) (by rfl) (by first|exact .inl rfl|exact .inr rfl|assumption)) (@yaa _ _ _ _ _ (@yag _ _ 5 _ _ _ _ za2.nd rfl (Or.inl rfl) zab (by rfl) (by first|exact .inl rfl|exact .inr rfl|assumption)) (@yaa _ _ _ _ _ (@yax _ _ _ _ _ _ PassesOwn.never (@PW.pt _ _ _ (@ybU _ _ _ _ _ _ _ (@zah _ _ _ _ _ _ _ _ ydY (pv 5) (pv 4) (yai _)) (@zbC _ _ _ _ (@zah _ _ _ _ _ _ _ _ zfA (@zan _ _ _ _ _ _ _ yam (pv 0) (@zag _ _ _ _ _ _ _ _ zav (@zag _ _ _ _ _ _ _ _ zao (pv 1) (@zag _ _ _ _ _ _ _ _ yaL (@zag _ _ _ _ _ _ _ _ zao (pv 5) zab) (pv 3))) (pv 4)) (fun _ _=>rfl)) (pv 2) (yai _))))) (@zad _ _ _ (@zbn _ _ 5 _ _ _ _ _ _ za2.nd rfl (Or.inl rfl) zab yb1 (by first|exact .inl rfl|exact .inr rfl|assumption)))) (@zad _ _ _ (@yal _ _ _ _ (pv 5)))))),?_⟩
  refine ⟨_,rfl,ra,_,rfl,.inl hra,?_⟩
  have eln:V.int ((((List.range n).map fun i=>rnN marks n i s).map Vn).length:Int)=Vn n:=by rw [List.length_map,List.length_map,List.length_range]
  rw [eln]
  dsimp only [zas]
  refine zax (fun σ H'=>H'=H∧∃o:Nat,o≤n∧(∀i,i<o→agP marks n f s m a i)∧σ=[some (.ref ra),some (Vn f),some (Vn m),some (Vn a),some (Vn n),some (Vn o)]) (fun σ _=>n-mI σ 5) ⟨rfl,0,Nat.zero_le _,fun i hi=>absurd hi (by omega),rfl⟩ ?_
  rintro σ H' ⟨rfl,o,ho,hall,rfl⟩
  refine ⟨_,rfl,_,rfl,_,_,rfl,rfl,_,rfl,?_⟩
  refine ite2 (fun c=>?_) (fun c=>?_)
  · have hon:o<n:=by have:=of_decide_eq_true c;omega
    have hmul:(o+1)*a≤64*64:=Nat.mul_le_mul (by omega) (by omega)
    have hix:(f+(o+1)*a)%n<n:=Nat.mod_lt _ hn1
    refine ⟨_,rfl,_,rfl,_,rfl,_,_,rfl,rfl,_,rfl,_,_,rfl,rfl,.inl ⟨by show -(2^64:Int)<(o:Int)+1;omega,by show (o:Int)+1<2^64;omega⟩,_,_,rfl,rfl,_,rfl,_,_,rfl,rfl,by show (0:Int)<n;omega,ra,_,_,Vn (rnN marks n ((f+(o+1)*a)%n) s),rfl,rfl,hra,?_,?_⟩
    · show atI _ (((f+(o+1)*a)%n:Nat):Int)=_
      refine za8 ?_
      rw [List.getElem?_map,List.getElem?_map,List.getElem?_range hix];rfl
    refine ⟨_,rfl,_,_,rfl,rfl,_,rfl,?_⟩
    refine ite2 (fun c2=>?_) (fun c2=>?_)
    · have c2:=of_decide_eq_true c2
      have hp:agP marks n f s m a o:=by unfold agP;omega
      refine ⟨fun σ' H''=>H''=H'∧σ'=[some (.ref ra),some (Vn f),some (Vn m),some (Vn a),some (Vn n),some (Vn (o+1))],?_,?_⟩
      · rintro σ' H'' ⟨rfl,rfl⟩
        exact ⟨_,by show n-(o+1)<n-o;omega,rfl,rfl,o+1,hon,fun i hi=>by
          rcases Nat.lt_or_ge i o with h|h
          · exact hall i h
          · rw [show i=o by omega];exact hp,rfl⟩
      · exact ⟨_,rfl,_,_,rfl,rfl,rfl,rfl⟩
    · have hp:¬ agP marks n f s m a o:=fun h=>c2 (decide_eq_true (by unfold agP at h;omega))
      refine ⟨_,rfl,?_⟩
      rw [IsAg.uniq (⟨ho,hall,.inr hp⟩:IsAg (agP marks n f s m a) n o) (zco marks n f s m a)]
      exact q
  · have hon:o=n:=by have:=of_decide_eq_false (Bool.eq_false_iff.mpr c);omega
    refine ⟨_,rfl,?_⟩
    rw [IsAg.uniq (⟨ho,hall,.inl hon⟩:IsAg (agP marks n f s m a) n o) (zco marks n f s m a)]
    exact q
noncomputable def rowM (n m j:Nat):List (Nat×Nat):=(((List.range j).map (·+1)).filter fun a=>decide (Nat.gcd a n≤m)).map fun a=>(m,a)
noncomputable def plM (n:Nat):Nat→List (Nat×Nat)
  | 0=>[]
  | i+1=>plM n i++rowM n (i+1) n
theorem yet (n m j:Nat):rowM n m (j+1)=rowM n m j++(if decide (Nat.gcd (j+1) n≤m)=true then [(m,j+1)] else []):=by
  unfold rowM
  rw [List.range_succ,List.map_append,List.filter_append,List.map_append]
  congr 1
  by_cases c:decide (Nat.gcd (j+1) n≤m)=true
  · rw [if_pos c];simp only [List.map_cons,List.map_nil,List.filter_cons,c,if_true,List.filter_nil]
  · rw [if_neg c];simp only [List.map_cons,List.map_nil,List.filter_cons,Bool.eq_false_iff.mpr c,Bool.false_eq_true,if_false,List.filter_nil]
theorem zdF (n m j:Nat):(rowM n m j).length≤j:=by
  unfold rowM
  rw [List.length_map]
  have:=List.length_filter_le (fun a=>decide (Nat.gcd a n≤m)) ((List.range j).map (·+1))
  rw [List.length_map,List.length_range] at this
  exact this
theorem yeE (n:Nat):∀i,(plM n i).length≤i*n
  | 0=>by simp [plM]
  | i+1=>by
    have h1:=yeE n i
    have h2:=zdF n (i+1) n
    rw [plM,List.length_append,Nat.succ_mul];omega
noncomputable def yfE (K:PySem.W.Frag):Sp:=fun vs H Q _=>∃(mk:Addr) (n f s:Nat) (marks:List Nat),vs=[.ref mk,Vn n,Vn f,Vn s]∧SqT K H mk (marks.map Vn)∧0<n∧n≤64∧f<n∧s≤64∧∀(r:Addr) (xs:List V) H',Same H H'→H' r=some (.lst xs)→Paps marks n f s H' xs (plM n (rnN marks n f s))→Q (.ref r) H'
theorem yaN:zak ["marks","n","first","step","runs","papers","many","far"] ["marks","n","first","step"] (zac yaA):=⟨rfl,rfl,rfl,by decide +kernel,rfl,by decide +kernel,by decide +kernel⟩
theorem ygj (B:Bl mg) (h_marked_run:Has P w K mg base 1 "marked_run" ["marks","n","first","step"] (zdN K)) (h_greatest_common:Has P w K mg base 1 "greatest_common" ["one","other"] ycd) (h_runs_again:Has P w K mg base 1 "runs_again" ["runs","first","many","far"] (zfm K)) (F:Fun K "wide_papers" "wide_papers" yaA f fd):FnOk P w K mg base CX0 2 f fd ["marks","n","first","step"] (yfE K):=by
  refine F.ok yaN (fun vs H Q E h=>?_) (fun cdv A outer s H vs Q E hr h=>?_)
  · obtain ⟨mk,n,f,s,marks,rfl,_⟩:=h;rfl
  obtain ⟨mk,n,f,s,marks,rfl,hm,hn1,hn,hf,hs,q⟩:=h
  refine ⟨_,(@yaa _ _ _ _ _ (@ybB _ 4 _ _ _ _ _ _ _ _ _ ["start"] ["marks","n","step"] [0,1,3] _ _ _ _ yaN.nd rfl (Or.inl rfl) (id (α:=CSc ["marks","n","first","step","runs","papers","many","far"] (zac yaA) ["start"] ["marks","n","step"] [0,1,3] _) ⟨by rfl,by decide +kernel,by decide +kernel,by decide +kernel,by decide +kernel,by rfl,by decide +kernel⟩) rfl (@yay _ _ _ _ _ _ rfl (B "range" (by decide)) (@zaa _ _ _ _ _ (pv 1) yab (by rfl)) (by rfl)) (fun cl C fp s H=>(@zaf _ _ 0 _ (by show List.Nodup (["start","marks","n","step"]:List Str);decide +kernel) rfl (Or.inl rfl) (by first|exact .inl rfl|exact .inr rfl|assumption))) (fun _ _ _ _ _=>yba) (fun _ _ _ _ _=>(@zae _ _ _ _ _ _ _ _ _ _ _ h_marked_run hr (by decide) rfl (@zaa _ _ _ _ _ (pv 1) (@zaa _ _ _ _ _ (pv 2) (@zaa _ _ _ _ _ (pv 0) (@zaa _ _ _ _ _ (pv 3) yab (by rfl)) (by rfl)) (by rfl)) (by rfl)) (by decide) (by rfl) (by rfl))) (by rfl) (by intro _;rfl) (by first|exact .inl rfl|exact .inr rfl|assumption)) (@yaa _ _ _ _ _ (@yag _ _ 5 _ _ _ _ yaN.nd rfl (Or.inl rfl) (@zaZ _ _ _ _ yab) (by rfl) (by first|exact .inl rfl|exact .inr rfl|assumption)) (@yaa _ _ _ _ _ (@zaz _ _ _ _ _ _ _ _ PassesOwn.never rfl (@ya7 _ _ _ _ _ _ _ rfl (B "range" (by decide)) (@zaa _ _ _ _ _ zab (@zaa _ _ _ _ _ (@zag _ _ _ _ _ _ _ _ zao (@zan _ _ _ _ _ _ _ yam (pv 4) (pv 2) (fun _ _=>rfl)) zab) yab (by rfl)) (by rfl)) (by rfl) (by rfl)) (@zaf _ _ 6 _ yaN.nd rfl (Or.inl rfl) (by first|exact .inl rfl|exact .inr rfl|assumption)) (@zad _ _ _ (@zaz _ _ _ _ _ _ _ _ PassesOwn.never rfl (@ya7 _ _ _ _ _ _ _ rfl (B "range" (by decide)) (@zaa _ _ _ _ _ zab (@zaa _ _ _ _ _ (@zag _ _ _ _ _ _ _ _ zao (pv 1) zab) yab (by rfl)) (by rfl)) (by rfl) (by rfl)) (@zaf _ _ 7 _ yaN.nd rfl (Or.inl rfl) (by first|exact .inl rfl|exact .inr rfl|assumption)) (@zad _ _ _ (@ya0 _ _ _ _ _ _ _ _ (@zah _ _ _ _ _ _ _ _ ybW (@zae _ _ _ _ _ _ _ _ _ _ _ h_greatest_common hr (by decide) rfl (@zaa _ _ _ _ _ (pv 7) (@zaa _ _ _ _ _ (pv 1) yab (by rfl)) (by rfl)) (by decide) (by rfl) (by rfl)) (pv 6) (yai _)) (@zad _ _ _ (@zbp _ _ _ _ (@ydr _ _ _ _ _ _ _ _ _ _ _ _ PySem.F.plainAttrs_list PySem.F.slot_list_append PySem.F.type_list_append ybf (pv 5) (@zaa _ _ _ _ _ (@ybm _ _ _ _ _ (@zaa _ _ _ _ _ (pv 2) (@zaa _ _ _ _ _ (pv 3) (@zaa _ _ _ _ _ (pv 6) (@zaa _ _ _ _ _ (pv 7) (@zaa _ _ _ _ _ (@zae _ _ _ _ _ _ _ _ _ _ _ h_runs_again hr (by decide) rfl (@zaa _ _ _ _ _ (pv 4) (@zaa _ _ _ _ _ (pv 2) (@zaa _ _ _ _ _ (pv 6) (@zaa _ _ _ _ _ (pv 7) yab (by rfl)) (by rfl)) (by rfl)) (by rfl)) (by decide) (by rfl) (by rfl)) yab (by rfl)) (by rfl)) (by rfl)) (by rfl)) (by rfl))) yab (by rfl)) (by rfl) (by rfl) (by rfl) (by rfl) (by rfl)) (by rfl))) zat)) (by intro _;rfl))) (by intro _;rfl)) (@zad _ _ _ (@yal _ _ _ _ (pv 5)))))),?_⟩
  refine ⟨_,rfl,(n:Int),rfl,by omega,by omega,?_⟩
  refine zaE yau (fun k acc H'=>H'=H∧acc=((List.range k).map fun i=>rnN marks n i s).map Vn) ⟨rfl,rfl⟩ (fun _ _ _ _ _=>trivial) ?_ ?_ ?_
  · rintro k acc H' hk ⟨_,rfl⟩
    rw [Int.toNat_natCast] at hk
    rw [List.length_map,List.length_map,List.length_range];exact zap (by omega)
  · rintro k acc z H1 H1' hk ⟨rfl,rfl⟩ ⟨rfl,rfl⟩
    refine ⟨_,rfl,_,rfl,_,rfl,_,rfl,mk,n,k,s,marks,by rw [Int.zero_add];rfl,hm,hn1,hn,hs,fun r hr=>⟨rfl,?_⟩⟩
    rw [zfk hr,List.range_succ,List.map_append,List.map_append];rfl
  rw [Int.toNat_natCast]
  rintro acc H1 ⟨rfl,rfl⟩ ra hra
  have s1:=yad hra (.lst (((List.range n).map fun i=>rnN marks n i s).map Vn))
  have era:upd H1 ra (.lst (((List.range n).map fun i=>rnN marks n i s).map Vn)) ra=some (.lst (((List.range n).map fun i=>rnN marks n i s).map Vn)):=yac
  dsimp only [zas]
  generalize upd H1 ra (.lst (((List.range n).map fun i=>rnN marks n i s).map Vn))=H2 at s1 era ⊢
  refine ⟨szl 0,fun pa hpa=>?_⟩
  have s2:=yad hpa (.lst [])
  dsimp only [zas]
  have hrle:=(zbN marks n f s).le
  refine ⟨_,rfl,_,rfl,ra,_,_,Vn (rnN marks n f s),rfl,rfl,SqL.of (s2 _ _ era),?_,_,_,rfl,rfl,1,((rnN marks n f s+1:Nat):Int),rfl,by omega,?_⟩
  · refine za8 ?_
    rw [List.getElem?_map,List.getElem?_map,List.getElem?_range hf];rfl
  have sU:∀ {H':Hp} {o:HO},Same H2 H'→Same H2 (upd H' pa o):=fun {H' o} sx b u e=>by rw [yaf (yae e hpa)];exact sx b u e
  refine yaM (yau (lo:=1) (n:=(((rnN marks n f s+1:Nat):Int)-1).toNat)) (fun i σ H'=>Same H2 H'∧(∃xs,H' pa=some (.lst xs)∧Paps marks n f s H' xs (plM n i))∧∃s6 s7,σ=[some (.ref mk),some (Vn n),some (Vn f),some (Vn s),some (.ref ra),some (.ref pa),s6,s7]) ⟨s2,⟨[],yac,⟨rfl,fun k x q h=>by cases h⟩⟩,none,none,rfl⟩ (fun _ _ _ _ _=>trivial) ?_ ?_
  · rintro i x σ H3 H3' hi ⟨s3,⟨xs,exs,hxs⟩,s6,s7,rfl⟩ ⟨rfl,rfl⟩
    have hi2:i<rnN marks n f s:=by omega
    obtain ⟨mm,emm,hmm⟩:∃mm:Nat,V.int (1+(i:Int))=Vn mm∧mm=i+1:=⟨i+1,ybc (by omega),rfl⟩
    dsimp only [zas]
    rw [emm]
    refine ⟨_,rfl,_,_,rfl,rfl,1,((n+1:Nat):Int),rfl,by omega,?_⟩
    refine yaM (yau (lo:=1) (n:=(((n+1:Nat):Int)-1).toNat)) (fun j σ H'=>Same H2 H'∧(∃xs,H' pa=some (.lst xs)∧Paps marks n f s H' xs (plM n i++rowM n mm j))∧∃s7,σ=[some (.ref mk),some (Vn n),some (Vn f),some (Vn s),some (.ref ra),some (.ref pa),some (Vn mm),s7]) ⟨s3,⟨xs,exs,by rw [show rowM n mm 0=[] from rfl,List.append_nil];exact hxs⟩,_,rfl⟩ (fun _ _ _ _ _=>trivial) ?_ ?_
    · rintro j x σ H4 H4' hj ⟨s4,⟨ys,eys,hys⟩,s7',rfl⟩ ⟨rfl,rfl⟩
      have hj2:j<n:=by omega
      obtain ⟨aa,eaa,haa⟩:∃aa:Nat,V.int (1+(j:Int))=Vn aa∧aa=j+1:=⟨j+1,ybc (by omega),rfl⟩
      dsimp only [zas]
      rw [eaa]
      refine ⟨_,rfl,_,rfl,aa,n,rfl,_,rfl,_,_,rfl,rfl,_,rfl,?_⟩
      rw [yet,←haa]
      have ed:decide ((Nat.gcd aa n:Int)≤(mm:Int))=decide (Nat.gcd aa n≤mm):=decide_eq_decide.mpr (by omega)
      rw [ed]
      refine ite2 (fun c=>?_) (fun c=>?_)
      · rw [if_pos c]
        refine ⟨_,rfl,.inl ⟨rfl,_,SqL.of eys⟩,_,rfl,_,rfl,_,rfl,_,rfl,_,rfl,_,rfl,_,rfl,_,rfl,ra,n,f,s,mm,aa,marks,rfl,SqL.of (s4 _ _ era),hn1,hn,by omega,by omega,szl 5,fun t5 ht5=>?_⟩
        have s5:=yad ht5 (.tup ([f,s,mm,aa,agN marks n f s mm aa].map Vn))
        have eys5:=s5 _ _ eys
        have e5:upd H4' t5 (.tup ([f,s,mm,aa,agN marks n f s mm aa].map Vn)) t5=some (.tup ([f,s,mm,aa,agN marks n f s mm aa].map Vn)):=yac
        have s45:=s4.trans s5
        have hys5:=hys.mono fun h=>h.same s5
        have hyl:=hys.len
        have h1:=yeE n i
        have h2:=zdF n mm j
        have h3:i*n≤64*64:=Nat.mul_le_mul (by omega) (by omega)
        rw [List.length_append] at hyl
        refine ⟨pa,_,_,rfl,rfl,eys5,szl _ (show ys.length+1≤100000 by omega),?_⟩
        refine ⟨sU s45,⟨ys++[.ref t5],yac,?_⟩,_,rfl⟩
        rw [←List.append_assoc]
        refine hys5.snoc (fun h=>h.upd eys5) ⟨t5,rfl,?_⟩
        rw [yaf (fun z=>by rw [z,eys] at ht5;cases ht5)];exact e5
      · rw [if_neg c,List.append_nil]
        exact ⟨s4,⟨ys,eys,hys⟩,_,rfl⟩
    · rw [show (((n+1:Nat):Int)-1).toNat=n by omega]
      rintro σ H4 ⟨s4,⟨ys,eys,hys⟩,s7',rfl⟩
      rw [hmm] at hys
      exact ⟨s4,⟨ys,eys,hys⟩,_,_,rfl⟩
  · rw [show (((rnN marks n f s+1:Nat):Int)-1).toNat=rnN marks n f s by omega]
    rintro σ H3 ⟨s3,⟨xs,exs,hxs⟩,s6,s7,rfl⟩
    exact ⟨_,rfl,q pa xs _ (s1.trans s3) exs hxs⟩
end
end My
end
section
-- text: R26
set_option Elab.async false
set_option linter.all false
set_option maxRecDepth 100000
set_option maxHeartbeats 4000000
namespace My
open PySem L2 Dg
theorem zeo {α:Type} {R:α→α→Prop} {L:List α} (h:L.Pairwise R) {k:Nat} {x y:α} (hx:x∈L.take k) (hy:L[k]?=some y):R x y:=by
  obtain ⟨i,hi,rfl⟩:=List.getElem_of_mem hx
  rw [List.length_take] at hi
  obtain ⟨hk,rfl⟩:=List.getElem?_eq_some_iff.mp hy
  rw [List.getElem_take]
  exact List.pairwise_iff_getElem.mp h i k (by omega) hk (by omega)
theorem ya2 {α:Type} {L:List α} {k:Nat} {x y:α} (hy:L[k]?=some y):x∈L.take (k+1)↔x∈L.take k∨x=y:=by
  rw [zbr hy,List.mem_append,List.mem_singleton]
theorem zd5 (n:Nat):(zaC n).Pairwise (· < ·):=by
  unfold zaC
  refine List.Pairwise.filter _ ?_
  rw [List.pairwise_map]
  exact List.pairwise_lt_range.imp fun h=>by omega
theorem ydN {n m j:Nat} {q:Nat×Nat}:q∈rowM n m j↔q.1=m∧1≤q.2∧q.2≤j∧Nat.gcd q.2 n≤m:=by
  unfold rowM
  simp only [List.mem_map,List.mem_filter,List.mem_range,decide_eq_true_eq]
  constructor
  · rintro ⟨a,⟨⟨i,hi,rfl⟩,hg⟩,rfl⟩
    exact ⟨rfl,by omega,by omega,hg⟩
  · rintro ⟨rfl,h1,h2,h3⟩
    exact ⟨q.2,⟨⟨q.2-1,by omega,by omega⟩,h3⟩,rfl⟩
theorem zdv {n:Nat} {q:Nat×Nat}:∀ {i:Nat},q∈plM n i↔1≤q.1∧q.1≤i∧1≤q.2∧q.2≤n∧Nat.gcd q.2 n≤q.1
  | 0=>by simp only [plM,List.not_mem_nil,false_iff];omega
  | i+1=>by
    rw [plM,List.mem_append,zdv,ydN]
    constructor
    · rintro (h | ⟨h1,h2,h3,h4⟩)
      · exact ⟨h.1,by omega,h.2.2⟩
      · exact ⟨by omega,by omega,h2,h3,by omega⟩
    · rintro ⟨h1,h2,h3,h4,h5⟩
      by_cases c:q.1=i+1
      · exact .inr ⟨c,h3,h4,by omega⟩
      · exact .inl ⟨h1,by omega,h3,h4,h5⟩
theorem zeU (n m j:Nat):(rowM n m j).Pairwise lex2:=by
  unfold rowM
  rw [List.pairwise_map]
  refine (List.Pairwise.filter (R:=(· < ·)) _ ?_).imp fun h=>.inr ⟨rfl,h⟩
  rw [List.pairwise_map]
  exact List.pairwise_lt_range.imp fun h=>by omega
theorem yeJ (n:Nat):∀i,(plM n i).Pairwise lex2
  | 0=>.nil
  | i+1=>by
    rw [plM]
    refine List.pairwise_append.mpr ⟨yeJ n i,zeU n _ _,fun p hp q hq=>?_⟩
    have h1:=zdv.mp hp
    have h2:=ydN.mp hq
    exact .inl (by omega)
noncomputable def BsAt (marks:List Nat) (n:Nat) (H:Hp) (v:V):Option P4→Prop
  | none=>v = .non
  | some (f,s,m,a)=>∃r:Addr,v = .ref r∧H r=some (.tup ([f,s,m,a,agN marks n f s m a].map Vn))
theorem BsAt.same {marks:List Nat} {n:Nat} {H H':Hp} {v:V} {b:Option P4} (h:BsAt marks n H v b) (e:Same H H'):BsAt marks n H' v b:=by
  match b,h with
  | none,h=>exact h
  | some (f,s,m,a),⟨r,h1,h2⟩=>exact ⟨r,h1,e _ _ h2⟩
noncomputable def DA (marks:List Nat) (n:Nat):S4:=fun f s m a=>f<n∧s∈zaC n∧Pw marks n f s m a
noncomputable def DI (marks:List Nat) (n i:Nat):S4:=fun f s m a=>f<i∧s∈zaC n∧Pw marks n f s m a
noncomputable def DJ (marks:List Nat) (n i j:Nat):S4:=fun f s m a=>DI marks n i f s m a∨(f=i∧s∈(zaC n).take j∧Pw marks n f s m a)
noncomputable def DK (marks:List Nat) (n i j st k:Nat):S4:=fun f s m a=>DJ marks n i j f s m a∨(f=i∧s=st∧(m,a)∈(plM n (rnN marks n i st)).take k)
theorem zff {marks:List Nat} {n i j st k f s m a:Nat} {q:Nat×Nat} (hs:(zaC n)[j]?=some st) (hq:(plM n (rnN marks n i st))[k]?=some q) (h:DK marks n i j st k f s m a):lex4 f s m a i st q.1 q.2:=by
  rcases h with (h|h)|h
  · unfold lex4;have:=h.1;omega
  · have:=zeo (zd5 n) h.2.1 hs
    unfold lex4;have:=h.1;omega
  · have:=zeo (yeJ n _) h.2.2 hq
    unfold lex2 at this
    unfold lex4;have h1:=h.1;have h2:=h.2.1
    omega
theorem yep {marks:List Nat} {n i j st k:Nat} {q:Nat×Nat} (hq:(plM n (rnN marks n i st))[k]?=some q) (f s m a:Nat):D1 (DK marks n i j st k) i st q.1 q.2 f s m a↔DK marks n i j st (k+1) f s m a:=by
  unfold D1 DK
  rw [ya2 hq]
  constructor
  · rintro ((h | ⟨h1,h2,h3⟩) | ⟨h1,h2,h3,h4⟩)
    · exact .inl h
    · exact .inr ⟨h1,h2,.inl h3⟩
    · exact .inr ⟨h1,h2,.inr (Prod.ext h3 h4)⟩
  · rintro (h | ⟨h1,h2,h3|h3⟩)
    · exact .inl (.inl h)
    · exact .inl (.inr ⟨h1,h2,h3⟩)
    · exact .inr ⟨h1,h2,by rw [←h3],by rw [←h3]⟩
theorem zfh {marks:List Nat} {n i j st:Nat} (hs:(zaC n)[j]?=some st) (f s m a:Nat):DK marks n i j st (plM n (rnN marks n i st)).length f s m a↔DJ marks n i (j+1) f s m a:=by
  unfold DK DJ
  rw [List.take_length,ya2 hs,zdv]
  constructor
  · rintro ((h | ⟨h1,h2,h3⟩) | ⟨h1,h2,h3⟩)
    · exact .inl h
    · exact .inr ⟨h1,.inl h2,h3⟩
    · refine .inr ⟨h1,.inr h2,?_⟩
      subst h1;subst h2;exact h3
  · rintro (h | ⟨h1,h2|h2,h3⟩)
    · exact .inl (.inl h)
    · exact .inl (.inr ⟨h1,h2,h3⟩)
    · refine .inr ⟨h1,h2,?_⟩
      subst h1;subst h2;exact h3
theorem zfd {marks:List Nat} {n i:Nat} (f s m a:Nat):DJ marks n i (zaC n).length f s m a↔DI marks n (i+1) f s m a:=by
  unfold DJ DI
  rw [List.take_length]
  constructor
  · rintro (h | ⟨h1,h2,h3⟩)
    · exact ⟨by omega,h.2⟩
    · exact ⟨by omega,h2,h3⟩
  · rintro ⟨h1,h2,h3⟩
    by_cases c:f=i
    · exact .inr ⟨c,h2,h3⟩
    · exact .inl ⟨by omega,h2,h3⟩
section
variable {P:Program} {w:World} {K:PySem.W.Frag} {mg:Str→Option Value} {base:Heap} {f:Addr} {fd:FuncData}
noncomputable def zf3 (K:PySem.W.Frag):Sp:=fun vs H Q _=>∃(wh fa mk:Addr) (p m t few root n:Nat) (marks:List Nat),vs=[.ref wh]∧WhAt H wh fa mk few root marks∧Fld K H fa p m t∧Good p m t∧Whl p m t few root n marks∧n≤15∧∀(v:V) (bo:Option P4) H',Same H H'→BsAt marks n H' v bo→BW marks n (DA marks n) bo→Q v H'
theorem zam:zak ["wheel","n","best","first","step","paper"] ["wheel"] (zac zaP):=⟨rfl,rfl,rfl,by decide +kernel,rfl,by decide +kernel,by decide +kernel⟩
theorem zgc {tk:Tok} (m_MOST_WIDE:mg "MOST_WIDE"=some (.int 15 tk)) (B:Bl mg) (h_length:Has P w K mg base 5 "length" ["wheel"] (zbJ K)) (h_steps_round:Has P w K mg base 2 "steps_round" ["n"] ycw) (h_wide_papers:Has P w K mg base 2 "wide_papers" ["marks","n","first","step"] (yfE K)) (F:Fun K "best_wide" "best_wide" zaP f fd):FnOk P w K mg base CX0 6 f fd ["wheel"] (zf3 K):=by
  refine F.ok zam (fun vs H Q E h=>?_) (fun cdv A outer s H vs Q E hr h=>?_)
  · obtain ⟨wh,fa,mk,p,m,t,few,root,n,marks,rfl,_⟩:=h;rfl
  obtain ⟨wh,fa,mk,p,m,t,few,root,n,marks,rfl,hW,hF,G,W,hn,q⟩:=h
  refine ⟨_,(@yaa _ _ _ _ _ (@yag _ _ 1 _ _ _ _ zam.nd rfl (Or.inl rfl) (@zae _ _ _ _ _ _ _ _ _ _ _ h_length hr (by decide) rfl (@zaa _ _ _ _ _ (pv 0) yab (by rfl)) (by decide) (by rfl) (by rfl)) (by rfl) (by first|exact .inl rfl|exact .inr rfl|assumption)) (@yaa _ _ _ _ _ (@ya0 _ _ _ _ _ _ _ _ (@zah _ _ _ _ _ _ _ _ zby (pv 1) (@zbB _ _ _ _ _ rfl m_MOST_WIDE (zcN _ _) (by decide)) (yai _)) (@zad _ _ _ yeX) zat) (@yaa _ _ _ _ _ (@yag _ _ 2 _ _ _ _ zam.nd rfl (Or.inl rfl) ycs (by rfl) (by first|exact .inl rfl|exact .inr rfl|assumption)) (@yaa _ _ _ _ _ (@zaz _ _ _ _ _ _ _ _ PassesOwn.never rfl (@yay _ _ _ _ _ _ rfl (B "range" (by decide)) (@zaa _ _ _ _ _ (pv 1) yab (by rfl)) (by rfl)) (@zaf _ _ 3 _ zam.nd rfl (Or.inl rfl) (by first|exact .inl rfl|exact .inr rfl|assumption)) (@zad _ _ _ (@zaz _ _ _ _ _ _ _ _ PassesOwn.never rfl (@za0 _ _ _ _ (@zae _ _ _ _ _ _ _ _ _ _ _ h_steps_round hr (by decide) rfl (@zaa _ _ _ _ _ (pv 1) yab (by rfl)) (by decide) (by rfl) (by rfl))) (@zaf _ _ 4 _ zam.nd rfl (Or.inl rfl) (by first|exact .inl rfl|exact .inr rfl|assumption)) (@zad _ _ _ (@zaz _ _ _ _ _ _ _ _ PassesOwn.never rfl (@za0 _ _ _ _ (@zae _ _ _ _ _ _ _ _ _ _ _ h_wide_papers hr (by decide) rfl (@zaa _ _ _ _ _ (@zan _ _ _ _ _ _ _ yaw (pv 0) zab (fun _ _=>rfl)) (@zaa _ _ _ _ _ (pv 1) (@zaa _ _ _ _ _ (pv 3) (@zaa _ _ _ _ _ (pv 4) yab (by rfl)) (by rfl)) (by rfl)) (by rfl)) (by decide) (by rfl) (by rfl))) (@zaf _ _ 5 _ zam.nd rfl (Or.inl rfl) (by first|exact .inl rfl|exact .inr rfl|assumption)) (@zad _ _ _ (@ya0 _ _ _ _ _ _ _ _ (@PW.pt _ _ _ (@ycL _ _ _ _ _ _ _ (@zdM _ _ _ _ _ _ (pv 2)) (@zbG _ _ _ _ (@zah _ _ _ _ _ _ _ _ zby (@zag _ _ _ _ _ _ _ _ zao (@zan _ _ _ _ _ _ _ yaw (pv 5) zab (fun _ _=>rfl)) (@zan _ _ _ _ _ _ _ yaw (pv 5) zab (fun _ _=>rfl))) (@zag _ _ _ _ _ _ _ _ zao (@zan _ _ _ _ _ _ _ yaw (pv 2) zab (fun _ _=>rfl)) (@zan _ _ _ _ _ _ _ yaw (pv 2) zab (fun _ _=>rfl))) (yai _))))) (@zad _ _ _ (@yag _ _ 2 _ _ _ _ zam.nd rfl (Or.inl rfl) (pv 5) (by rfl) (by first|exact .inl rfl|exact .inr rfl|assumption))) zat)) (by intro _;rfl))) (by intro _;rfl))) (by intro _;rfl)) (@zad _ _ _ (@yal _ _ _ _ (pv 2))))))),?_⟩
  refine ⟨_,rfl,wh,fa,p,m,t,few,root,.ref mk,rfl,SqT.of hW.w,hF,G,W.r0,W.rq,fun n' o' hn'=>?_⟩
  cases o'.uniq W.ord
  have hn1:=W.ord.pos
  dsimp only [zas]
  refine ⟨_,rfl,_,_,rfl,rfl,_,rfl,?_⟩
  refine ite2 (fun c=>absurd (of_decide_eq_true c) (by omega)) (fun _=>?_)
  dsimp only [zdn,zas]
  refine ⟨_,rfl,(n:Int),rfl,by omega,by omega,?_⟩
  refine yaM (yau (lo:=0) (n:=((n:Nat):Int).toNat)) (fun i σ H'=>Same H H'∧∃v bo s3 s4 s5,BsAt marks n H' v bo∧BW marks n (DI marks n i) bo∧σ=[some (.ref wh),some (Vn n),some v,s3,s4,s5]) ⟨Same.refl _,.non,none,none,none,none,rfl,(fun f s m a h=>absurd h.1 (by omega)),rfl⟩ (fun _ _ _ _ _=>trivial) ?_ ?_
  · rintro i x σ H1 H1' hi ⟨s1,v,bo,s3,s4,s5,hb,hw,rfl⟩ ⟨rfl,rfl⟩
    rw [Int.toNat_natCast] at hi
    rw [show V.int (0+(i:Int))=Vn i from ybc (Int.zero_add _)]
    dsimp only [zas]
    refine ⟨_,rfl,n,rfl,by omega,fun sl H2 s2 fsl esl=>⟨sl,rfl,⟨_,SqL.of esl⟩,?_⟩⟩
    refine yaM (zaN (xs:=(zaC n).map Vn)) (fun j σ H'=>Same H2 H'∧∃v bo s4 s5,BsAt marks n H' v bo∧BW marks n (DJ marks n i j) bo∧σ=[some (.ref wh),some (Vn n),some v,some (Vn i),s4,s5]) ⟨Same.refl _,v,bo,_,_,hb.same s2,hw.weak fun f s m a=>⟨fun h=>.inl h,fun h=>h.elim id fun z=>by simp at z⟩,rfl⟩ (fun j σ H' _ h=>SqL.of (h.1 _ _ esl)) ?_ ?_
    · rintro j x σ H3 H3' hj ⟨s3',v,bo,s4,s5,hb,hw,rfl⟩ ⟨rfl,ez⟩
      rw [List.length_map] at hj
      have hst:(zaC n)[j]?=some ((zaC n).getD j 0):=by rw [List.getElem?_eq_getElem hj];simp [List.getD,hj]
      rw [ybr hj] at ez
      cases ez
      have hmem:(zaC n).getD j 0∈zaC n:=List.mem_of_getElem? hst
      generalize (zaC n).getD j 0=st at hst hmem ⊢
      have hstl:=zbg.mp hmem
      dsimp only [zas]
      have s13:=s1.trans (s2.trans s3')
      have hW3:=hW.same s13
      refine ⟨_,rfl,wh,_,_,.ref mk,rfl,rfl,SqT.of hW3.w,rfl,_,rfl,_,rfl,_,rfl,mk,n,i,st,marks,rfl,SqT.of hW3.k,hn1,by omega,hi,by omega,fun pr xs H4 s4' epr hps=>⟨pr,rfl,⟨_,SqL.of epr⟩,?_⟩⟩
      refine yaM (zaN (xs:=xs)) (fun k σ H'=>H'=H4∧∃v bo s5,BsAt marks n H' v bo∧BW marks n (DK marks n i j st k) bo∧σ=[some (.ref wh),some (Vn n),some v,some (Vn i),some (Vn st),s5]) ⟨rfl,v,bo,_,hb.same s4',hw.weak fun f s m a=>⟨fun h=>.inl h,fun h=>h.elim id fun z=>by simp at z⟩,rfl⟩ (fun j σ H' _ h=>by rw [h.1];exact SqL.of epr) ?_ ?_
      · rintro k x σ H5 H5' hk ⟨rfl,v,bo,s5,hb,hw,rfl⟩ ⟨rfl,ez⟩
        obtain ⟨qq,hq⟩:∃qq,(plM n (rnN marks n i st))[k]?=some qq:=⟨_,List.getElem?_eq_getElem (by rw [←hps.len];exact hk)⟩
        obtain ⟨r5,rfl,er5⟩:=hps.at_ k x qq ez hq
        have lx:=fun f s m a=>zff (f:=f) (s:=s) (m:=m) (a:=a) (j:=j) hst hq
        have su:=yep (j:=j) hq
        dsimp only [zas]
        cases bo with
        | none =>
          have hb:v = .non:=hb
          subst hb
          refine ⟨_,rfl,true,by rw [decide_eq_true rfl],?_⟩
          refine ite2 (fun _=>?_) (fun c=>absurd rfl c)
          refine ite2 (fun _=>?_) (fun c=>absurd rfl c)
          exact ⟨_,rfl,rfl,.ref r5,some (i,st,qq.1,qq.2),_,⟨r5,rfl,er5⟩,hw.first.weak su,rfl⟩
        | some q4 =>
          obtain ⟨f,s,m,a⟩:=q4
          obtain ⟨r6,e6,er6⟩:=hb
          subst e6
          refine ⟨_,rfl,false,by rw [decide_eq_false (fun h=>nomatch h)],?_⟩
          refine ite2 (fun c=>absurd c (by decide)) (fun _=>?_)
          refine ⟨_,rfl,r5,_,_,Vn qq.1,rfl,rfl,SqT.of er5,rfl,_,rfl,r5,_,_,Vn (agN marks n i st qq.1 qq.2),rfl,rfl,SqT.of er5,rfl,_,_,rfl,rfl,?_⟩
          refine ⟨_,rfl,r6,_,_,Vn m,rfl,rfl,SqT.of er6,rfl,_,rfl,r6,_,_,Vn (agN marks n f s m a),rfl,rfl,SqT.of er6,rfl,_,_,rfl,rfl,?_⟩
          refine ⟨_,_,rfl,rfl,_,rfl,?_⟩
          refine ite2 (fun c=>?_) (fun c=>?_)
          · have c:=of_decide_eq_true c
            exact ⟨_,rfl,rfl,.ref r5,some (i,st,qq.1,qq.2),_,⟨r5,rfl,er5⟩,(hw.take (.inl (by unfold vN;omega))).weak su,rfl⟩
          · have c:=of_decide_eq_false (Bool.eq_false_iff.mpr c)
            refine ⟨rfl,.ref r6,some (f,s,m,a),_,⟨r6,rfl,er6⟩,(hw.stay ?_).weak su,rfl⟩
            have:=lx f s m a hw.1
            unfold vN
            rcases Nat.lt_or_ge (qq.1+agN marks n i st qq.1 qq.2) (m+agN marks n f s m a) with h|h
            · exact .inl h
            · exact .inr ⟨by omega,this⟩
      · rintro σ H5 ⟨rfl,v,bo,s5,hb,hw,rfl⟩
        rw [hps.len] at hw
        exact ⟨s3'.trans s4',v,bo,_,_,hb,hw.weak (zfh hst),rfl⟩
    · rw [List.length_map]
      rintro σ H3 ⟨s3',v,bo,s4,s5,hb,hw,rfl⟩
      exact ⟨s1.trans (s2.trans s3'),v,bo,_,_,_,hb,hw.weak zfd,rfl⟩
  · rw [Int.toNat_natCast]
    rintro σ H1 ⟨s1,v,bo,s3,s4,s5,hb,hw,rfl⟩
    exact ⟨_,rfl,q v bo _ s1 hb hw⟩
section
variable {Re By Nr Tm Nt Nl:Addr}
noncomputable def zfi (K:PySem.W.Frag) (Tm:Addr):Sp:=fun vs H Q E=>∃(wh fa mk:Addr) (p m t few root n:Nat) (marks:List Nat),vs=[.ref wh]∧WhAt H wh fa mk few root marks∧Fld K H fa p m t∧Good p m t∧Whl p m t few root n marks∧n≤64∧(15<n→E (.ref Tm) none H)∧(n≤15→∀(v:V) H',Same H H'→Q v H')
theorem yfO {tk:Tok} (m_MOST_WIDE:mg "MOST_WIDE"=some (.int 15 tk)) (B:Bl mg) (ER:Errs K mg Re By Nr Tm Nt Nl) (h_length:Has P w K mg base 5 "length" ["wheel"] (zbJ K)) (h_steps_round:Has P w K mg base 2 "steps_round" ["n"] ycw) (h_wide_papers:Has P w K mg base 2 "wide_papers" ["marks","n","first","step"] (yfE K)) (F:Fun K "best_wide" "best_wide" zaP f fd):FnOk P w K mg base (CX1 P w) 6 f fd ["wheel"] (zfi K Tm):=by
  refine F.okX zam (fun vs H Q E h=>?_) (fun cdv A outer s H vs Q E hr h=>?_)
  · obtain ⟨wh,fa,mk,p,m,t,few,root,n,marks,rfl,_⟩:=h;rfl
  obtain ⟨wh,fa,mk,p,m,t,few,root,n,marks,rfl,hW,hF,G,W,hn64,qE,q⟩:=h
  refine ⟨_,(@yaa _ _ _ _ _ (@zdE _ _ _ (@yag _ _ 1 _ _ _ _ zam.nd rfl (Or.inl rfl) (@zae _ _ _ _ _ _ _ _ _ _ _ h_length hr (by decide) rfl (@zaa _ _ _ _ _ (pv 0) yab (by rfl)) (by decide) (by rfl) (by rfl)) (by rfl) (by first|exact .inl rfl|exact .inr rfl|assumption))) (@yaa _ _ _ _ _ (@ya0 _ _ _ _ _ _ _ _ (@zah _ _ _ _ _ _ _ _ zby (pv 1) (@zbB _ _ _ _ _ rfl m_MOST_WIDE (zcN _ _) (by decide)) (yai _)) (@zad _ _ _ (@ze3 _ _ _ _ _ _ _ _ _ _ _ _ _ _ _ _ _ _ _ _ _ _ _ _ (ER.one (by simp)) hr rfl ER.mTm (@zaa _ _ _ _ _ ya1 yab (by rfl)) (by decide) (by rfl) (by rfl))) zat) (@yaa _ _ _ _ _ (@zdE _ _ _ (@yag _ _ 2 _ _ _ _ zam.nd rfl (Or.inl rfl) ycs (by rfl) (by first|exact .inl rfl|exact .inr rfl|assumption))) (@yaa _ _ _ _ _ (@zdE _ _ _ (@zaz _ _ _ _ _ _ _ _ PassesOwn.never rfl (@yay _ _ _ _ _ _ rfl (B "range" (by decide)) (@zaa _ _ _ _ _ (pv 1) yab (by rfl)) (by rfl)) (@zaf _ _ 3 _ zam.nd rfl (Or.inl rfl) (by first|exact .inl rfl|exact .inr rfl|assumption)) (@zad _ _ _ (@zaz _ _ _ _ _ _ _ _ PassesOwn.never rfl (@za0 _ _ _ _ (@zae _ _ _ _ _ _ _ _ _ _ _ h_steps_round hr (by decide) rfl (@zaa _ _ _ _ _ (pv 1) yab (by rfl)) (by decide) (by rfl) (by rfl))) (@zaf _ _ 4 _ zam.nd rfl (Or.inl rfl) (by first|exact .inl rfl|exact .inr rfl|assumption)) (@zad _ _ _ (@zaz _ _ _ _ _ _ _ _ PassesOwn.never rfl (@za0 _ _ _ _ (@zae _ _ _ _ _ _ _ _ _ _ _ h_wide_papers hr (by decide) rfl (@zaa _ _ _ _ _ (@zan _ _ _ _ _ _ _ yaw (pv 0) zab (fun _ _=>rfl)) (@zaa _ _ _ _ _ (pv 1) (@zaa _ _ _ _ _ (pv 3) (@zaa _ _ _ _ _ (pv 4) yab (by rfl)) (by rfl)) (by rfl)) (by rfl)) (by decide) (by rfl) (by rfl))) (@zaf _ _ 5 _ zam.nd rfl (Or.inl rfl) (by first|exact .inl rfl|exact .inr rfl|assumption)) (@zad _ _ _ (@ya0 _ _ _ _ _ _ _ _ (@PW.pt _ _ _ (@ycL _ _ _ _ _ _ _ (@zdM _ _ _ _ _ _ (pv 2)) (@zbG _ _ _ _ (@zah _ _ _ _ _ _ _ _ zby (@zag _ _ _ _ _ _ _ _ zao (@zan _ _ _ _ _ _ _ yaw (pv 5) zab (fun _ _=>rfl)) (@zan _ _ _ _ _ _ _ yaw (pv 5) zab (fun _ _=>rfl))) (@zag _ _ _ _ _ _ _ _ zao (@zan _ _ _ _ _ _ _ yaw (pv 2) zab (fun _ _=>rfl)) (@zan _ _ _ _ _ _ _ yaw (pv 2) zab (fun _ _=>rfl))) (yai _))))) (@zad _ _ _ (@yag _ _ 2 _ _ _ _ zam.nd rfl (Or.inl rfl) (pv 5) (by rfl) (by first|exact .inl rfl|exact .inr rfl|assumption))) zat)) (by intro _;rfl))) (by intro _;rfl))) (by intro _;rfl))) (@zad _ _ _ (@zdE _ _ _ (@yal _ _ _ _ (pv 2)))))))),?_⟩
  refine ⟨_,rfl,wh,fa,p,m,t,few,root,.ref mk,rfl,SqT.of hW.w,hF,G,W.r0,W.rq,fun n' o' hn'=>?_⟩
  cases o'.uniq W.ord
  have hn1:=W.ord.pos
  dsimp only [zas]
  refine ⟨_,rfl,_,_,rfl,rfl,_,rfl,?_⟩
  refine ite2 (fun c=>⟨szl 1,qE (by have:=of_decide_eq_true c;omega)⟩) (fun c=>?_)
  have hn:n≤15:=by have:=of_decide_eq_false (Bool.eq_false_iff.mpr c);omega
  have q:=q hn
  dsimp only [zdn,zas]
  refine ⟨_,rfl,(n:Int),rfl,by omega,by omega,?_⟩
  refine yaM (yau (lo:=0) (n:=((n:Nat):Int).toNat)) (fun i σ H'=>Same H H'∧∃v bo s3 s4 s5,BsAt marks n H' v bo∧BW marks n (DI marks n i) bo∧σ=[some (.ref wh),some (Vn n),some v,s3,s4,s5]) ⟨Same.refl _,.non,none,none,none,none,rfl,(fun f s m a h=>absurd h.1 (by omega)),rfl⟩ (fun _ _ _ _ _=>trivial) ?_ ?_
  · rintro i x σ H1 H1' hi ⟨s1,v,bo,s3,s4,s5,hb,hw,rfl⟩ ⟨rfl,rfl⟩
    rw [Int.toNat_natCast] at hi
    rw [show V.int (0+(i:Int))=Vn i from ybc (Int.zero_add _)]
    dsimp only [zas]
    refine ⟨_,rfl,n,rfl,by omega,fun sl H2 s2 fsl esl=>⟨sl,rfl,⟨_,SqL.of esl⟩,?_⟩⟩
    refine yaM (zaN (xs:=(zaC n).map Vn)) (fun j σ H'=>Same H2 H'∧∃v bo s4 s5,BsAt marks n H' v bo∧BW marks n (DJ marks n i j) bo∧σ=[some (.ref wh),some (Vn n),some v,some (Vn i),s4,s5]) ⟨Same.refl _,v,bo,_,_,hb.same s2,hw.weak fun f s m a=>⟨fun h=>.inl h,fun h=>h.elim id fun z=>by simp at z⟩,rfl⟩ (fun j σ H' _ h=>SqL.of (h.1 _ _ esl)) ?_ ?_
    · rintro j x σ H3 H3' hj ⟨s3',v,bo,s4,s5,hb,hw,rfl⟩ ⟨rfl,ez⟩
      rw [List.length_map] at hj
      have hst:(zaC n)[j]?=some ((zaC n).getD j 0):=by rw [List.getElem?_eq_getElem hj];simp [List.getD,hj]
      rw [ybr hj] at ez
      cases ez
      have hmem:(zaC n).getD j 0∈zaC n:=List.mem_of_getElem? hst
      generalize (zaC n).getD j 0=st at hst hmem ⊢
      have hstl:=zbg.mp hmem
      dsimp only [zas]
      have s13:=s1.trans (s2.trans s3')
      have hW3:=hW.same s13
      refine ⟨_,rfl,wh,_,_,.ref mk,rfl,rfl,SqT.of hW3.w,rfl,_,rfl,_,rfl,_,rfl,mk,n,i,st,marks,rfl,SqT.of hW3.k,hn1,by omega,hi,by omega,fun pr xs H4 s4' epr hps=>⟨pr,rfl,⟨_,SqL.of epr⟩,?_⟩⟩
      refine yaM (zaN (xs:=xs)) (fun k σ H'=>H'=H4∧∃v bo s5,BsAt marks n H' v bo∧BW marks n (DK marks n i j st k) bo∧σ=[some (.ref wh),some (Vn n),some v,some (Vn i),some (Vn st),s5]) ⟨rfl,v,bo,_,hb.same s4',hw.weak fun f s m a=>⟨fun h=>.inl h,fun h=>h.elim id fun z=>by simp at z⟩,rfl⟩ (fun j σ H' _ h=>by rw [h.1];exact SqL.of epr) ?_ ?_
      · rintro k x σ H5 H5' hk ⟨rfl,v,bo,s5,hb,hw,rfl⟩ ⟨rfl,ez⟩
        obtain ⟨qq,hq⟩:∃qq,(plM n (rnN marks n i st))[k]?=some qq:=⟨_,List.getElem?_eq_getElem (by rw [←hps.len];exact hk)⟩
        obtain ⟨r5,rfl,er5⟩:=hps.at_ k x qq ez hq
        have lx:=fun f s m a=>zff (f:=f) (s:=s) (m:=m) (a:=a) (j:=j) hst hq
        have su:=yep (j:=j) hq
        dsimp only [zas]
        cases bo with
        | none =>
          have hb:v = .non:=hb
          subst hb
          refine ⟨_,rfl,true,by rw [decide_eq_true rfl],?_⟩
          refine ite2 (fun _=>?_) (fun c=>absurd rfl c)
          refine ite2 (fun _=>?_) (fun c=>absurd rfl c)
          exact ⟨_,rfl,rfl,.ref r5,some (i,st,qq.1,qq.2),_,⟨r5,rfl,er5⟩,hw.first.weak su,rfl⟩
        | some q4 =>
          obtain ⟨f,s,m,a⟩:=q4
          obtain ⟨r6,e6,er6⟩:=hb
          subst e6
          refine ⟨_,rfl,false,by rw [decide_eq_false (fun h=>nomatch h)],?_⟩
          refine ite2 (fun c=>absurd c (by decide)) (fun _=>?_)
          refine ⟨_,rfl,r5,_,_,Vn qq.1,rfl,rfl,SqT.of er5,rfl,_,rfl,r5,_,_,Vn (agN marks n i st qq.1 qq.2),rfl,rfl,SqT.of er5,rfl,_,_,rfl,rfl,?_⟩
          refine ⟨_,rfl,r6,_,_,Vn m,rfl,rfl,SqT.of er6,rfl,_,rfl,r6,_,_,Vn (agN marks n f s m a),rfl,rfl,SqT.of er6,rfl,_,_,rfl,rfl,?_⟩
          refine ⟨_,_,rfl,rfl,_,rfl,?_⟩
          refine ite2 (fun c=>?_) (fun c=>?_)
          · have c:=of_decide_eq_true c
            exact ⟨_,rfl,rfl,.ref r5,some (i,st,qq.1,qq.2),_,⟨r5,rfl,er5⟩,(hw.take (.inl (by unfold vN;omega))).weak su,rfl⟩
          · have c:=of_decide_eq_false (Bool.eq_false_iff.mpr c)
            refine ⟨rfl,.ref r6,some (f,s,m,a),_,⟨r6,rfl,er6⟩,(hw.stay ?_).weak su,rfl⟩
            have:=lx f s m a hw.1
            unfold vN
            rcases Nat.lt_or_ge (qq.1+agN marks n i st qq.1 qq.2) (m+agN marks n f s m a) with h|h
            · exact .inl h
            · exact .inr ⟨by omega,this⟩
      · rintro σ H5 ⟨rfl,v,bo,s5,hb,hw,rfl⟩
        rw [hps.len] at hw
        exact ⟨s3'.trans s4',v,bo,_,_,hb,hw.weak (zfh hst),rfl⟩
    · rw [List.length_map]
      rintro σ H3 ⟨s3',v,bo,s4,s5,hb,hw,rfl⟩
      exact ⟨s1.trans (s2.trans s3'),v,bo,_,_,_,hb,hw.weak zfd,rfl⟩
  · rw [Int.toNat_natCast]
    rintro σ H1 ⟨s1,v,bo,s3,s4,s5,hb,hw,rfl⟩
    exact ⟨_,rfl,q v _ s1⟩
end
end
end My
end
section
-- text: S26
set_option Elab.async false
set_option linter.all false
set_option maxRecDepth 100000
set_option maxHeartbeats 4000000
namespace My
open PySem L2 Dg
noncomputable def dwL (n:Nat) (p:Nat→Bool) (k:Nat):List Nat:=((List.range k).map fun i=>n-i).filter p
theorem zeF {n:Nat} {p:Nat→Bool} {x:Nat}:x∈dwL n p n↔1≤x∧x≤n∧p x=true:=by
  unfold dwL
  simp only [List.mem_filter,List.mem_map,List.mem_range]
  constructor
  · rintro ⟨⟨i,hi,rfl⟩,hp⟩
    exact ⟨by omega,by omega,hp⟩
  · rintro ⟨h1,h2,hp⟩
    exact ⟨⟨n-x,by omega,by omega⟩,hp⟩
theorem ydF (n:Nat) (p:Nat→Bool) (k:Nat):dwL n p (k+1)=dwL n p k++(if p (n-k)=true then [n-k] else []):=by
  unfold dwL
  rw [List.range_succ,List.map_append,List.filter_append]
  congr 1
  by_cases c:p (n-k)=true
  · rw [if_pos c];simp only [List.map_cons,List.map_nil,List.filter_cons,c,if_true,List.filter_nil]
  · rw [if_neg c];simp only [List.map_cons,List.map_nil,List.filter_cons,Bool.eq_false_iff.mpr c,Bool.false_eq_true,if_false,List.filter_nil]
theorem zeu (n:Nat) (p:Nat→Bool) (k:Nat):(dwL n p k).length≤k:=by
  unfold dwL
  have:=List.length_filter_le p ((List.range k).map fun i=>n-i)
  rw [List.length_map,List.length_range] at this
  exact this
theorem lex5 {f s m a o f' s' m' a' o':Nat} (ho:f=f'→s=s'→m=m'→a=a'→o=o'):(HT.lexLt ([f,s,m,a,o].map fun x:Nat=>(x:Int)) ([f',s',m',a',o'].map fun x:Nat=>(x:Int))=true→lex4 f s m a f' s' m' a')∧(HT.lexLt ([f,s,m,a,o].map fun x:Nat=>(x:Int)) ([f',s',m',a',o'].map fun x:Nat=>(x:Int))=false→lex4 f' s' m' a' f s m a):=by
  simp only [List.map_cons,List.map_nil,HT.lexLt_cons,HT.lexLt_nil_nil]
  unfold lex4
  by_cases c1:(f:Int)=f'
  · rw [if_pos c1]
    by_cases c2:(s:Int)=s'
    · rw [if_pos c2]
      by_cases c3:(m:Int)=m'
      · rw [if_pos c3]
        by_cases c4:(a:Int)=a'
        · have:=ho (by omega) (by omega) (by omega) (by omega)
          rw [if_pos c4,if_pos (by omega)]
          exact ⟨fun h=>absurd h (by decide),fun _=>by omega⟩
        · rw [if_neg c4]
          exact ⟨fun h=>by have:=of_decide_eq_true h;omega,fun h=>by have:=of_decide_eq_false h;omega⟩
      · rw [if_neg c3]
        exact ⟨fun h=>by have:=of_decide_eq_true h;omega,fun h=>by have:=of_decide_eq_false h;omega⟩
    · rw [if_neg c2]
      exact ⟨fun h=>by have:=of_decide_eq_true h;omega,fun h=>by have:=of_decide_eq_false h;omega⟩
  · rw [if_neg c1]
    exact ⟨fun h=>by have:=of_decide_eq_true h;omega,fun h=>by have:=of_decide_eq_false h;omega⟩
noncomputable def BlAt (marks:List Nat) (n:Nat) (H:Hp) (v:V):Option P4→Prop
  | none=>v = .non
  | some (f,s,m,a)=>∃r r2:Addr,v = .ref r∧H r=some (.tup [.int (0-(m:Int)-(agN marks n f s m a:Int)),.ref r2])∧H r2=some (.tup ([f,s,m,a,agN marks n f s m a].map Vn))
theorem BlAt.same {marks:List Nat} {n:Nat} {H H':Hp} {v:V} {b:Option P4} (h:BlAt marks n H v b) (e:Same H H'):BlAt marks n H' v b:=by
  match b,h with
  | none,h=>exact h
  | some (f,s,m,a),⟨r,r2,h1,h2,h3⟩=>exact ⟨r,r2,h1,e _ _ h2,e _ _ h3⟩
noncomputable def EI (marks:List Nat) (n i:Nat):S4:=fun f s m a=>n≤f+i∧f<n∧s∈zaC n∧Pw marks n f s m a
noncomputable def EJ (marks:List Nat) (n i:Nat) (ss:List Nat) (j:Nat):S4:=fun f s m a=>EI marks n i f s m a∨(f+i+1=n∧s∈ss.take j∧Pw marks n f s m a)
noncomputable def EK (marks:List Nat) (n i:Nat) (ss:List Nat) (j st k:Nat):S4:=fun f s m a=>EJ marks n i ss j f s m a∨(f+i+1=n∧s=st∧rnN marks n (n-1-i) st<m+k∧Pw marks n f s m a)
noncomputable def EL (marks:List Nat) (n i:Nat) (ss:List Nat) (j st k mm:Nat) (fs:List Nat) (l:Nat):S4:=fun f s m a=>EK marks n i ss j st k f s m a∨(f+i+1=n∧s=st∧m=mm∧a∈fs.take l)
section
variable {P:Program} {w:World} {K:PySem.W.Frag} {mg:Str→Option Value} {base:Heap} {f:Addr} {fd:FuncData}
noncomputable def yfd (K:PySem.W.Frag):Sp:=fun vs H Q _=>∃(mk:Addr) (n:Nat) (marks:List Nat),vs=[.ref mk,Vn n]∧H mk=some (.tup (marks.map Vn))∧1≤n∧n≤63∧∀(v:V) (bo:Option P4) H',Same H H'→BsAt marks n H' v bo→BW marks n (DA marks n) bo→Q v H'
theorem yas:zak ["_law_marks","_law_n","_law_best","_law_first","_law_step","_law_runs","_law_many","_law_far","_law_often","_law_here"] ["_law_marks","_law_n"] (zac zaJ):=⟨rfl,rfl,rfl,by decide +kernel,rfl,by decide +kernel,by decide +kernel⟩
theorem yfQ (B:Bl mg) (h__law_common:Has P w K mg base 1 "_law_common" ["_law_one","_law_other"] ycd) (h__law_run:Has P w K mg base 1 "_law_run" ["_law_marks","_law_n","_law_first","_law_step"] (zdN K)) (F:Fun K "_law_due" "_law_due" zaJ f fd):FnOk P w K mg base CX0 2 f fd ["_law_marks","_law_n"] (yfd K):=by
  refine F.ok yas (fun vs H Q E h=>?_) (fun cdv A outer s H vs Q E hr h=>?_)
  · obtain ⟨mk,n,marks,rfl,_⟩:=h;rfl
  obtain ⟨mk,n,marks,rfl,hm,hn1,hn,q⟩:=h
  refine ⟨_,(@yaa _ _ _ _ _ (@yag _ _ 2 _ _ _ _ yas.nd rfl (Or.inl rfl) ycs (by rfl) (by first|exact .inl rfl|exact .inr rfl|assumption)) (@yaa _ _ _ _ _ (@zaz _ _ _ _ _ _ _ _ PassesOwn.never rfl (@zb8 _ _ _ _ _ _ _ _ rfl (B "range" (by decide)) (@zaa _ _ _ _ _ (@zag _ _ _ _ _ _ _ _ zbA (pv 1) zab) (@zaa _ _ _ _ _ (@zcc _ _ _ _ _ _ zbu zab) (@zaa _ _ _ _ _ (@zcc _ _ _ _ _ _ zbu zab) yab (by rfl)) (by rfl)) (by rfl)) (by rfl) (by rfl)) (@zaf _ _ 3 _ yas.nd rfl (Or.inl rfl) (by first|exact .inl rfl|exact .inr rfl|assumption)) (@zad _ _ _ (@zaz _ _ _ _ _ _ _ _ PassesOwn.never rfl (@za0 _ _ _ _ (@zbm _ _ _ _ _ _ _ ["_law_step"] ["_law_n"] [1] _ _ _ _ (id (α:=CSc ["_law_marks","_law_n","_law_best","_law_first","_law_step","_law_runs","_law_many","_law_far","_law_often","_law_here"] (zac zaJ) ["_law_step"] ["_law_n"] [1] _) ⟨by rfl,by decide +kernel,by decide +kernel,by decide +kernel,by decide +kernel,by rfl,by decide +kernel⟩) rfl (@zb8 _ _ _ _ _ _ _ _ rfl (B "range" (by decide)) (@zaa _ _ _ _ _ (pv 1) (@zaa _ _ _ _ _ zab (@zaa _ _ _ _ _ (@zcc _ _ _ _ _ _ zbu zab) yab (by rfl)) (by rfl)) (by rfl)) (by rfl) (by rfl)) (fun cl C fp s H=>(@zaf _ _ 0 _ (by show List.Nodup (["_law_step","_law_n"]:List Str);decide +kernel) rfl (Or.inl rfl) (by first|exact .inl rfl|exact .inr rfl|assumption))) (fun _ _ _ _ _=>(@ybv _ _ _ (@zah _ _ _ _ _ _ _ _ yby (@zae _ _ _ _ _ _ _ _ _ _ _ h__law_common hr (by decide) rfl (@zaa _ _ _ _ _ (pv 0) (@zaa _ _ _ _ _ (pv 1) yab (by rfl)) (by rfl)) (by decide) (by rfl) (by rfl)) zab (yai _)))) (fun _ _ _ _ _=>(pv 0)) (by intro _;rfl))) (@zaf _ _ 4 _ yas.nd rfl (Or.inr rfl) (by first|exact .inl rfl|exact .inr rfl|assumption)) (@yaa _ _ _ _ _ (@ybB _ 5 _ _ _ _ _ _ _ _ _ ["_law_begin"] ["_law_marks","_law_n","_law_step"] [0,1,4] _ _ _ _ yas.nd rfl (Or.inl rfl) (id (α:=CSc ["_law_marks","_law_n","_law_best","_law_first","_law_step","_law_runs","_law_many","_law_far","_law_often","_law_here"] (zac zaJ) ["_law_begin"] ["_law_marks","_law_n","_law_step"] [0,1,4] _) ⟨by rfl,by decide +kernel,by decide +kernel,by decide +kernel,by decide +kernel,by rfl,by decide +kernel⟩) rfl (@yay _ _ _ _ _ _ rfl (B "range" (by decide)) (@zaa _ _ _ _ _ (pv 1) yab (by rfl)) (by rfl)) (fun cl C fp s H=>(@zaf _ _ 0 _ (by show List.Nodup (["_law_begin","_law_marks","_law_n","_law_step"]:List Str);decide +kernel) rfl (Or.inl rfl) (by first|exact .inl rfl|exact .inr rfl|assumption))) (fun _ _ _ _ _=>yba) (fun _ _ _ _ _=>(@zae _ _ _ _ _ _ _ _ _ _ _ h__law_run hr (by decide) rfl (@zaa _ _ _ _ _ (pv 1) (@zaa _ _ _ _ _ (pv 2) (@zaa _ _ _ _ _ (pv 0) (@zaa _ _ _ _ _ (pv 3) yab (by rfl)) (by rfl)) (by rfl)) (by rfl)) (by decide) (by rfl) (by rfl))) (by rfl) (by intro _;rfl) (by first|exact .inl rfl|exact .inr rfl|assumption)) (@zad _ _ _ (@zaz _ _ _ _ _ _ _ _ PassesOwn.never rfl (@zb8 _ _ _ _ _ _ _ _ rfl (B "range" (by decide)) (@zaa _ _ _ _ _ (@zan _ _ _ _ _ _ _ yam (pv 5) (pv 3) (fun _ _=>rfl)) (@zaa _ _ _ _ _ zab (@zaa _ _ _ _ _ (@zcc _ _ _ _ _ _ zbu zab) yab (by rfl)) (by rfl)) (by rfl)) (by rfl) (by rfl)) (@zaf _ _ 6 _ yas.nd rfl (Or.inr rfl) (by first|exact .inl rfl|exact .inr rfl|assumption)) (@zad _ _ _ (@zaz _ _ _ _ _ _ _ _ PassesOwn.never rfl (@za0 _ _ _ _ (@zbm _ _ _ _ _ _ _ ["_law_far"] ["_law_many","_law_n"] [6,1] _ _ _ _ (id (α:=CSc ["_law_marks","_law_n","_law_best","_law_first","_law_step","_law_runs","_law_many","_law_far","_law_often","_law_here"] (zac zaJ) ["_law_far"] ["_law_many","_law_n"] [6,1] _) ⟨by rfl,by decide +kernel,by decide +kernel,by decide +kernel,by decide +kernel,by rfl,by decide +kernel⟩) rfl (@zb8 _ _ _ _ _ _ _ _ rfl (B "range" (by decide)) (@zaa _ _ _ _ _ (pv 1) (@zaa _ _ _ _ _ zab (@zaa _ _ _ _ _ (@zcc _ _ _ _ _ _ zbu zab) yab (by rfl)) (by rfl)) (by rfl)) (by rfl) (by rfl)) (fun cl C fp s H=>(@zaf _ _ 0 _ (by show List.Nodup (["_law_far","_law_many","_law_n"]:List Str);decide +kernel) rfl (Or.inl rfl) (by first|exact .inl rfl|exact .inr rfl|assumption))) (fun _ _ _ _ _=>(@ybv _ _ _ (@zah _ _ _ _ _ _ _ _ ybW (@zae _ _ _ _ _ _ _ _ _ _ _ h__law_common hr (by decide) rfl (@zaa _ _ _ _ _ (pv 0) (@zaa _ _ _ _ _ (pv 2) yab (by rfl)) (by rfl)) (by decide) (by rfl) (by rfl)) (pv 1) (yai _)))) (fun _ _ _ _ _=>(pv 0)) (by intro _;rfl))) (@zaf _ _ 7 _ yas.nd rfl (Or.inl rfl) (by first|exact .inl rfl|exact .inr rfl|assumption)) (@yaa _ _ _ _ _ (@yag _ _ 8 _ _ _ _ yas.nd rfl (Or.inl rfl) zab (by rfl) (by first|exact .inl rfl|exact .inr rfl|assumption)) (@yaa _ _ _ _ _ (@yax _ _ _ _ _ _ PassesOwn.never (@PW.pt _ _ _ (@ybU _ _ _ _ _ _ _ (@zah _ _ _ _ _ _ _ _ ydY (pv 8) (pv 1) (yai _)) (@zbC _ _ _ _ (@zah _ _ _ _ _ _ _ _ zfA (@zan _ _ _ _ _ _ _ yam (pv 5) (@zag _ _ _ _ _ _ _ _ zav (@zag _ _ _ _ _ _ _ _ zao (@zag _ _ _ _ _ _ _ _ zao (pv 3) (@zag _ _ _ _ _ _ _ _ yaL (pv 8) (pv 7))) (pv 7)) (pv 1)) (fun _ _=>rfl)) (pv 6) (yai _))))) (@zad _ _ _ (@yag _ _ 8 _ _ _ _ yas.nd rfl (Or.inl rfl) (@zag _ _ _ _ _ _ _ _ zao (pv 8) zab) (by rfl) (by first|exact .inl rfl|exact .inr rfl|assumption)))) (@yaa _ _ _ _ _ (@yag _ _ 9 _ _ _ _ yas.nd rfl (Or.inl rfl) (@ybm _ _ _ _ _ (@zaa _ _ _ _ _ (@zag _ _ _ _ _ _ _ _ zbA (@zag _ _ _ _ _ _ _ _ zbA zab (pv 6)) (pv 8)) (@zaa _ _ _ _ _ (@ybm _ _ _ _ _ (@zaa _ _ _ _ _ (pv 3) (@zaa _ _ _ _ _ (pv 4) (@zaa _ _ _ _ _ (pv 6) (@zaa _ _ _ _ _ (pv 7) (@zaa _ _ _ _ _ (pv 8) yab (by rfl)) (by rfl)) (by rfl)) (by rfl)) (by rfl))) yab (by rfl)) (by rfl))) (by rfl) (by first|exact .inl rfl|exact .inr rfl|assumption)) (@zad _ _ _ (@ya0 _ _ _ _ _ _ _ _ (@PW.pt _ _ _ (@ycL _ _ _ _ _ _ _ (@zdM _ _ _ _ _ _ (pv 2)) (@zbG _ _ _ _ (@zah _ _ _ _ _ _ _ _ (yf5 hr.units) (pv 9) (pv 2) (yai _))))) (@zad _ _ _ (@yag _ _ 2 _ _ _ _ yas.nd rfl (Or.inl rfl) (pv 9) (by rfl) (by first|exact .inl rfl|exact .inr rfl|assumption))) zat))))) (by intro _;rfl))) (by intro _;rfl)))) (by intro _;rfl))) (by intro _;rfl)) (@zad _ _ _ (@yal _ _ _ _ (@ze4 _ _ _ _ _ _ _ _ (@zdM _ _ _ _ _ _ (pv 2)) ycs (@zan _ _ _ _ _ _ _ yaw (pv 2) zab (fun _ _=>rfl))))))),?_⟩
  dsimp only [zas]
  refine ⟨_,rfl,_,_,rfl,rfl,1,rfl,1,rfl,((n:Int)-1),(-1),rfl,⟨by omega,by omega,by omega,by omega⟩,?_⟩
  refine yaM (ybp (hi:=(n:Int)-1) (n:=((n:Int)-1-(-1)).toNat)) (fun i σ H'=>Same H H'∧∃v bo s3 s4 s5 s6 s7 s8 s9,BlAt marks n H' v bo∧BW marks n (EI marks n i) bo∧σ=[some (.ref mk),some (Vn n),some v,s3,s4,s5,s6,s7,s8,s9]) ⟨Same.refl _,.non,none,none,none,none,none,none,none,none,rfl,(fun f s m a h=>by have:=h.1;have:=h.2.1;omega),rfl⟩ (fun _ _ _ _ _=>trivial) ?_ ?_
  · rintro i x σ H1 H1' hi ⟨s1,v,bo,s3,s4,s5,s6,s7,s8,s9,hb,hw,rfl⟩ ⟨rfl,rfl⟩
    have hi2:i<n:=by omega
    obtain ⟨ff,eff,hff⟩:∃ff:Nat,V.int ((n:Int)-1-(i:Int))=Vn ff∧ff=n-1-i:=⟨n-1-i,ybc (by omega),rfl⟩
    rw [eff]
    dsimp only [zas]
    refine ⟨_,rfl,1,rfl,(n:Int),0,rfl,⟨by omega,by omega,by omega,by omega⟩,?_⟩
    refine zaE (ybp (hi:=(n:Int)) (n:=((n:Int)-0).toNat)) (fun k acc H'=>H'=H1'∧acc=(dwL n (fun s=>decide (Nat.gcd s n=1)) k).map Vn) ⟨rfl,rfl⟩ (fun _ _ _ _ _=>trivial) ?_ ?_ ?_
    · rintro k acc H' hk ⟨_,rfl⟩
      have:=zeu n (fun s=>decide (Nat.gcd s n=1)) k
      rw [List.length_map];exact zap (by omega)
    · rintro k acc x Ha Ha' hk ⟨rfl,rfl⟩ ⟨rfl,rfl⟩
      have hk2:k<n:=by omega
      have ek:V.int ((n:Int)-(k:Int))=Vn (n-k):=ybc (by omega)
      rw [ek]
      refine ⟨_,rfl,_,rfl,n-k,n,rfl,rfl,_,rfl,?_⟩
      rw [zbx,ydF]
      refine ite2 (fun c=>?_) (fun c=>?_)
      · refine ⟨_,rfl,rfl,?_⟩
        rw [if_pos c,List.map_append];rfl
      · refine ⟨rfl,?_⟩
        rw [if_neg c,List.append_nil]
    rw [show ((n:Int)-0).toNat=n by omega]
    rintro acc H2 ⟨rfl,rfl⟩ sl hsl
    have s2:=yad hsl (.lst ((dwL n (fun s=>decide (Nat.gcd s n=1)) n).map Vn))
    have esl:upd H2 sl (.lst ((dwL n (fun s=>decide (Nat.gcd s n=1)) n).map Vn)) sl=some (.lst ((dwL n (fun s=>decide (Nat.gcd s n=1)) n).map Vn)):=yac
    have hss:∀s,s∈dwL n (fun s=>decide (Nat.gcd s n=1)) n↔s∈zaC n:=fun s=>by rw [zeF,zbg,decide_eq_true_eq]
    generalize dwL n (fun s=>decide (Nat.gcd s n=1)) n=ss at s2 esl hss ⊢
    generalize upd H2 sl (.lst (ss.map Vn))=H3 at s2 esl ⊢
    refine ⟨sl,rfl,⟨_,SqL.of esl⟩,?_⟩
    refine yaM (zaN (xs:=ss.map Vn)) (fun j σ H'=>Same H3 H'∧∃v bo s4 s5 s6 s7 s8 s9,BlAt marks n H' v bo∧BW marks n (EJ marks n i ss j) bo∧σ=[some (.ref mk),some (Vn n),some v,some (Vn ff),s4,s5,s6,s7,s8,s9]) ⟨Same.refl _,v,bo,_,_,_,_,_,_,hb.same s2,hw.weak fun f s m a=>⟨fun h=>.inl h,fun h=>h.elim id fun z=>by simp at z⟩,rfl⟩ (fun j σ H' _ h=>SqL.of (h.1 _ _ esl)) ?_ ?_
    · rintro j x σ H4 H4' hj ⟨s4',v,bo,s4,s5,s6,s7,s8,s9,hb,hw,rfl⟩ ⟨rfl,ez⟩
      rw [List.length_map] at hj
      have hst:ss[j]?=some (ss.getD j 0):=by rw [List.getElem?_eq_getElem hj];simp [List.getD,hj]
      rw [ybr hj] at ez
      cases ez
      have hmem:ss.getD j 0∈ss:=List.mem_of_getElem? hst
      generalize ss.getD j 0=st at hst hmem ⊢
      have hstl:=zbg.mp ((hss st).mp hmem)
      dsimp only [zas]
      have s14:=s1.trans (s2.trans s4')
      refine ⟨_,rfl,(n:Int),rfl,by omega,by omega,?_⟩
      refine zaE yau (fun k acc H'=>H'=H4'∧acc=((List.range k).map fun i=>rnN marks n i st).map Vn) ⟨rfl,rfl⟩ (fun _ _ _ _ _=>trivial) ?_ ?_ ?_
      · rintro k acc H' hk ⟨_,rfl⟩
        rw [Int.toNat_natCast] at hk
        rw [List.length_map,List.length_map,List.length_range];exact zap (by omega)
      · rintro k acc z Ha Ha' hk ⟨rfl,rfl⟩ ⟨rfl,rfl⟩
        refine ⟨_,rfl,_,rfl,_,rfl,_,rfl,mk,n,k,st,marks,by rw [Int.zero_add];rfl,SqT.of (s14 _ _ hm),hn1,by omega,by omega,fun r hr=>⟨rfl,?_⟩⟩
        rw [zfk hr,List.range_succ,List.map_append,List.map_append];rfl
      rw [Int.toNat_natCast]
      rintro acc H5 ⟨rfl,rfl⟩ ra hra
      have s5':=yad hra (.lst (((List.range n).map fun i=>rnN marks n i st).map Vn))
      have era:upd H5 ra (.lst (((List.range n).map fun i=>rnN marks n i st).map Vn)) ra=some (.lst (((List.range n).map fun i=>rnN marks n i st).map Vn)):=yac
      dsimp only [zas]
      generalize upd H5 ra (.lst (((List.range n).map fun i=>rnN marks n i st).map Vn))=H6 at s5' era ⊢
      have hrle:=(zbN marks n ff st).le
      have hffn:ff<n:=by omega
      generalize hrr:rnN marks n ff st=rr at hrle
      refine ⟨_,rfl,_,rfl,ra,_,_,Vn rr,rfl,rfl,SqL.of era,?_,1,rfl,(rr:Int),0,rfl,⟨by omega,by omega,by omega,by omega⟩,?_⟩
      · refine za8 ?_
        rw [List.getElem?_map,List.getElem?_map,List.getElem?_range hffn]
        show some (Vn (rnN marks n ff st))=_
        rw [hrr]
      refine yaM (ybp (hi:=(rr:Int)) (n:=((rr:Int)-0).toNat)) (fun k σ H'=>Same H6 H'∧∃v bo s6 s7 s8 s9,BlAt marks n H' v bo∧BW marks n (EK marks n i ss j st k) bo∧σ=[some (.ref mk),some (Vn n),some v,some (Vn ff),some (Vn st),some (.ref ra),s6,s7,s8,s9]) ⟨Same.refl _,v,bo,_,_,_,_,hb.same s5',hw.weak fun f s m a=>⟨fun h=>.inl h,fun h=>h.elim id fun z=>?_⟩,rfl⟩ (fun _ _ _ _ _=>trivial) ?_ ?_
      · exfalso
        obtain ⟨z1,z2,z3,z4⟩:=z
        have:=z4.2.1
        rw [show f=n-1-i by omega,z2] at this
        omega
      · rintro k x σ H7 H7' hk ⟨s7',v,bo,s6,s7,s8,s9,hb,hw,rfl⟩ ⟨rfl,rfl⟩
        have hk2:k<rr:=by omega
        obtain ⟨mm,emm,hmm⟩:∃mm:Nat,V.int ((rr:Int)-(k:Int))=Vn mm∧mm=rr-k:=⟨rr-k,ybc (by omega),rfl⟩
        rw [emm]
        dsimp only [zas]
        refine ⟨_,rfl,1,rfl,(n:Int),0,rfl,⟨by omega,by omega,by omega,by omega⟩,?_⟩
        refine zaE (ybp (hi:=(n:Int)) (n:=((n:Int)-0).toNat)) (fun k acc H'=>H'=H7'∧acc=(dwL n (fun a=>decide (Nat.gcd a n≤mm)) k).map Vn) ⟨rfl,rfl⟩ (fun _ _ _ _ _=>trivial) ?_ ?_ ?_
        · rintro k acc H' hk ⟨_,rfl⟩
          have:=zeu n (fun a=>decide (Nat.gcd a n≤mm)) k
          rw [List.length_map];exact zap (by omega)
        · rintro k acc x Ha Ha' hk ⟨rfl,rfl⟩ ⟨rfl,rfl⟩
          have hk2:k<n:=by omega
          have ek:V.int ((n:Int)-(k:Int))=Vn (n-k):=ybc (by omega)
          rw [ek]
          refine ⟨_,rfl,_,rfl,n-k,n,rfl,_,rfl,_,_,rfl,rfl,_,rfl,?_⟩
          have ed:decide ((Nat.gcd (n-k) n:Int)≤(mm:Int))=decide (Nat.gcd (n-k) n≤mm):=decide_eq_decide.mpr (by omega)
          rw [ed,ydF]
          refine ite2 (fun c=>?_) (fun c=>?_)
          · refine ⟨_,rfl,rfl,?_⟩
            rw [if_pos c,List.map_append];rfl
          · refine ⟨rfl,?_⟩
            rw [if_neg c,List.append_nil]
        rw [show ((n:Int)-0).toNat=n by omega]
        rintro acc H8 ⟨rfl,rfl⟩ fl hfl
        have s8':=yad hfl (.lst ((dwL n (fun a=>decide (Nat.gcd a n≤mm)) n).map Vn))
        have efl:upd H8 fl (.lst ((dwL n (fun a=>decide (Nat.gcd a n≤mm)) n).map Vn)) fl=some (.lst ((dwL n (fun a=>decide (Nat.gcd a n≤mm)) n).map Vn)):=yac
        have hfs:∀a,a∈dwL n (fun a=>decide (Nat.gcd a n≤mm)) n↔1≤a∧a≤n∧Nat.gcd a n≤mm:=fun a=>by rw [zeF,decide_eq_true_eq]
        generalize dwL n (fun a=>decide (Nat.gcd a n≤mm)) n=fs at s8' efl hfs ⊢
        generalize upd H8 fl (.lst (fs.map Vn))=H9 at s8' efl ⊢
        refine ⟨fl,rfl,⟨_,SqL.of efl⟩,?_⟩
        refine yaM (zaN (xs:=fs.map Vn)) (fun l σ H'=>Same H9 H'∧∃v bo s7 s8 s9,BlAt marks n H' v bo∧BW marks n (EL marks n i ss j st k mm fs l) bo∧σ=[some (.ref mk),some (Vn n),some v,some (Vn ff),some (Vn st),some (.ref ra),some (Vn mm),s7,s8,s9]) ⟨Same.refl _,v,bo,_,_,_,hb.same s8',hw.weak fun f s m a=>⟨fun h=>.inl h,fun h=>h.elim id fun z=>by simp at z⟩,rfl⟩ (fun j σ H' _ h=>SqL.of (h.1 _ _ efl)) ?_ ?_
        · rintro l x σ Hb Hb' hl ⟨sb,v,bo,s7,s8,s9,hb,hw,rfl⟩ ⟨rfl,ez⟩
          rw [List.length_map] at hl
          have hat:fs[l]?=some (fs.getD l 0):=by rw [List.getElem?_eq_getElem hl];simp [List.getD,hl]
          rw [ybr hl] at ez
          cases ez
          have hamem:fs.getD l 0∈fs:=List.mem_of_getElem? hat
          generalize fs.getD l 0=aa at hat hamem ⊢
          have haa:=(hfs aa).mp hamem
          dsimp only [zas]
          have erab:=sb _ _ (s8' _ _ (s7' _ _ era))
          refine zax (fun σ H'=>H'=Hb'∧∃o:Nat,o≤n∧(∀i,i<o→agP marks n ff st mm aa i)∧σ=[some (.ref mk),some (Vn n),some v,some (Vn ff),some (Vn st),some (.ref ra),some (Vn mm),some (Vn aa),some (Vn o),s9]) (fun σ _=>n-mI σ 8) ⟨rfl,0,Nat.zero_le _,fun i hi=>absurd hi (by omega),rfl⟩ ?_
          rintro σ Hc ⟨rfl,o,ho,hall,rfl⟩
          refine ⟨_,rfl,_,rfl,_,_,rfl,rfl,_,rfl,?_⟩
          have su:∀f s m a,D1 (EL marks n i ss j st k mm fs l) ff st mm aa f s m a↔EL marks n i ss j st k mm fs (l+1) f s m a:=fun f s m a=>by
            unfold D1 EL
            rw [ya2 hat]
            constructor
            · rintro ((h | ⟨h1,h2,h3,h4⟩) | ⟨h1,h2,h3,h4⟩)
              · exact .inl h
              · exact .inr ⟨h1,h2,h3,.inl h4⟩
              · exact .inr ⟨by omega,h2,h3,.inr h4⟩
            · rintro (h | ⟨h1,h2,h3,h4|h4⟩)
              · exact .inl (.inl h)
              · exact .inl (.inr ⟨h1,h2,h3,h4⟩)
              · exact .inr ⟨by omega,h2,h3,h4⟩
          refine ite2 (fun c=>?_) (fun c=>?_)
          have hon:o<n:=by have:=of_decide_eq_true c;omega
          have hmul:o*aa≤64*64:=Nat.mul_le_mul (by omega) (by omega)
          have hix:(ff+o*aa+aa)%n<n:=Nat.mod_lt _ hn1
          have eix:(ff+(o+1)*aa)%n=(ff+o*aa+aa)%n:=by rw [Nat.succ_mul,Nat.add_assoc]
          refine ⟨_,rfl,_,rfl,_,rfl,_,rfl,_,_,rfl,rfl,.inl ⟨by show -(2^64:Int)<(o:Int);omega,by show (o:Int)<2^64;omega⟩,_,_,rfl,rfl,_,rfl,_,_,rfl,rfl,_,rfl,_,_,rfl,rfl,by show (0:Int)<n;omega,ra,_,_,Vn (rnN marks n ((ff+o*aa+aa)%n) st),rfl,rfl,SqL.of erab,?_,?_⟩
          · show atI _ (((ff+o*aa+aa)%n:Nat):Int)=_
            refine za8 ?_
            rw [List.getElem?_map,List.getElem?_map,List.getElem?_range hix];rfl
          refine ⟨_,rfl,_,_,rfl,rfl,_,rfl,?_⟩
          refine ite2 (fun c2=>?_) (fun c2=>?_)
          · have c2:=of_decide_eq_true c2
            have hp:agP marks n ff st mm aa o:=by unfold agP;rw [eix];omega
            refine ⟨fun σ' H''=>H''=Hc∧σ'=[some (.ref mk),some (Vn n),some v,some (Vn ff),some (Vn st),some (.ref ra),some (Vn mm),some (Vn aa),some (Vn (o+1)),s9],?_,?_⟩
            · rintro σ' H'' ⟨rfl,rfl⟩
              exact ⟨_,by show n-(o+1)<n-o;omega,rfl,rfl,o+1,hon,fun i hi=>by
                rcases Nat.lt_or_ge i o with h|h
                · exact hall i h
                · rw [show i=o by omega];exact hp,rfl⟩
            · exact ⟨_,rfl,_,_,rfl,rfl,rfl,rfl⟩
          have hag:o=agN marks n ff st mm aa:=IsAg.uniq (⟨ho,hall,.inr fun h=>c2 (decide_eq_true (by unfold agP at h;rw [eix] at h;omega))⟩:IsAg (agP marks n ff st mm aa) n o) (zco marks n ff st mm aa)
          rotate_left
          have hag:o=agN marks n ff st mm aa:=IsAg.uniq (⟨ho,hall,.inl (by have:=of_decide_eq_false (Bool.eq_false_iff.mpr c);omega)⟩:IsAg (agP marks n ff st mm aa) n o) (zco marks n ff st mm aa)
          all_goals
            refine ⟨_,rfl,_,_,rfl,rfl,_,rfl,_,_,rfl,rfl,_,rfl,_,rfl,_,rfl,_,rfl,_,rfl,szl 5,fun t5 ht5=>⟨szl 2,fun t2 ht2=>?_⟩⟩
            have sd:=yad ht5 (.tup ([ff,st,mm,aa,o].map Vn))
            have se:=yad ht2 (.tup [.int (0-(mm:Int)-(o:Int)),.ref t5])
            have et5:upd (upd Hc t5 (.tup ([ff,st,mm,aa,o].map Vn))) t2 (.tup [.int (0-(mm:Int)-(o:Int)),.ref t5]) t5=some (.tup ([ff,st,mm,aa,o].map Vn)):=se _ _ yac
            have et2:upd (upd Hc t5 (.tup ([ff,st,mm,aa,o].map Vn))) t2 (.tup [.int (0-(mm:Int)-(o:Int)),.ref t5]) t2=some (.tup [.int (0-(mm:Int)-(o:Int)),.ref t5]):=yac
            have sde:=sd.trans se
            have hb2:=hb.same sde
            dsimp only [zas]
            have hnew:BlAt marks n (upd (upd Hc t5 (.tup ([ff,st,mm,aa,o].map Vn))) t2 (.tup [.int (0-(mm:Int)-(o:Int)),.ref t5])) (.ref t2) (some (ff,st,mm,aa)):=⟨t2,t5,rfl,by rw [←hag];exact et2,by rw [←hag];exact et5⟩
            have sbd:=sb.trans sde
            cases bo with
            | none =>
              have hb:v = .non:=hb
              subst hb
              refine ⟨_,rfl,true,by rw [decide_eq_true rfl],?_⟩
              refine ite2 (fun _=>?_) (fun c=>absurd rfl c)
              refine ite2 (fun _=>?_) (fun c=>absurd rfl c)
              exact ⟨_,rfl,sbd,.ref t2,some (ff,st,mm,aa),_,_,_,hnew,hw.first.weak su,rfl⟩
            | some q4 =>
              obtain ⟨f,s,m,a⟩:=q4
              obtain ⟨r6,r7,e6,er6,er7⟩:=hb2
              subst e6
              refine ⟨_,rfl,false,by rw [decide_eq_false (fun h=>nomatch h)],?_⟩
              refine ite2 (fun c=>absurd c (by decide)) (fun _=>?_)
              refine ⟨_,rfl,_,rfl,t2,r6,t5,r7,0-(mm:Int)-(o:Int),0-(m:Int)-(agN marks n f s m a:Int),[ff,st,mm,aa,o].map (fun x:Nat=>(x:Int)),[f,s,m,a,agN marks n f s m a].map (fun x:Nat=>(x:Int)),rfl,rfl,SqT.of et2,SqT.of er6,SqT.of (by rw [mapI];exact et5),SqT.of (by rw [mapI];exact er7),_,rfl,?_⟩
              have lx:=lex5 (f:=ff) (s:=st) (m:=mm) (a:=aa) (o:=o) (f':=f) (s':=s) (m':=m) (a':=a) (o':=agN marks n f s m a) (fun h1 h2 h3 h4=>by rw [hag,h1,h2,h3,h4])
              refine ite2 (fun c=>?_) (fun c=>?_)
              · refine ⟨_,rfl,sbd,.ref t2,some (ff,st,mm,aa),_,_,_,hnew,(hw.take ?_).weak su,rfl⟩
                unfold vN
                rw [←hag]
                by_cases ce:0-(mm:Int)-(o:Int)=0-(m:Int)-(agN marks n f s m a:Int)
                · rw [if_pos ce] at c
                  exact .inr ⟨by omega,lx.1 c⟩
                · rw [if_neg ce] at c
                  have c:=of_decide_eq_true c
                  exact .inl (by omega)
              · refine ⟨sbd,.ref r6,some (f,s,m,a),_,_,_,⟨r6,r7,rfl,er6,er7⟩,(hw.stay ?_).weak su,rfl⟩
                unfold vN
                rw [←hag]
                by_cases ce:0-(mm:Int)-(o:Int)=0-(m:Int)-(agN marks n f s m a:Int)
                · rw [if_pos ce] at c
                  exact .inr ⟨by omega,lx.2 (Bool.eq_false_iff.mpr c)⟩
                · rw [if_neg ce] at c
                  have c:=of_decide_eq_false (Bool.eq_false_iff.mpr c)
                  exact .inl (by omega)
        · rw [List.length_map]
          rintro σ Hb ⟨sb,v,bo,s7,s8,s9,hb,hw,rfl⟩
          refine ⟨s7'.trans (s8'.trans sb),v,bo,_,_,_,_,hb,hw.weak fun f s m a=>?_,rfl⟩
          unfold EL EK
          rw [List.take_length,hfs]
          constructor
          · rintro ((h | ⟨h1,h2,h3,h4⟩) | ⟨h1,h2,h3,h4⟩)
            · exact .inl h
            · exact .inr ⟨h1,h2,by omega,h4⟩
            · refine .inr ⟨h1,h2,?_,?_⟩
              · rw [show n-1-i=ff from hff.symm,hrr];omega
              · refine ⟨by omega,?_,h4.1,h4.2.1,by omega⟩
                rw [show f=ff by omega,h2,hrr];omega
          · rintro (h | ⟨h1,h2,h3,h4⟩)
            · exact .inl (.inl h)
            · rw [show n-1-i=ff from hff.symm,hrr] at h3
              by_cases ce:m=mm
              · exact .inr ⟨h1,h2,ce,h4.2.2.1,h4.2.2.2.1,by have:=h4.2.2.2.2;omega⟩
              · refine .inl (.inr ⟨h1,h2,?_,h4⟩)
                rw [show n-1-i=ff from hff.symm,hrr];omega
      · rw [show ((rr:Int)-0).toNat=rr by omega]
        rintro σ H7 ⟨s7',v,bo,s6,s7,s8,s9,hb,hw,rfl⟩
        refine ⟨s4'.trans (s5'.trans s7'),v,bo,_,_,_,_,_,_,hb,hw.weak fun f s m a=>?_,rfl⟩
        unfold EK EJ
        rw [ya2 hst]
        constructor
        · rintro ((h | ⟨h1,h2,h3⟩) | ⟨h1,h2,h3,h4⟩)
          · exact .inl h
          · exact .inr ⟨h1,.inl h2,h3⟩
          · exact .inr ⟨h1,.inr h2,h4⟩
        · rintro (h | ⟨h1,h2|h2,h3⟩)
          · exact .inl (.inl h)
          · exact .inl (.inr ⟨h1,h2,h3⟩)
          · refine .inr ⟨h1,h2,?_,h3⟩
            rw [show n-1-i=ff from hff.symm,hrr]
            have:=h3.1
            omega
    · rw [List.length_map]
      rintro σ H4 ⟨s4',v,bo,s4,s5,s6,s7,s8,s9,hb,hw,rfl⟩
      refine ⟨s1.trans (s2.trans s4'),v,bo,_,_,_,_,_,_,_,hb,hw.weak fun f s m a=>?_,rfl⟩
      unfold EJ EI
      rw [List.take_length,hss]
      constructor
      · rintro (h | ⟨h1,h2,h3⟩)
        · exact ⟨by omega,h.2⟩
        · exact ⟨by omega,by omega,h2,h3⟩
      · rintro ⟨h1,h2,h3,h4⟩
        by_cases c:n≤f+i
        · exact .inl ⟨c,h2,h3,h4⟩
        · exact .inr ⟨by omega,h3,h4⟩
  · rw [show ((n:Int)-1-(-1)).toNat=n by omega]
    rintro σ H1 ⟨s1,v,bo,s3,s4,s5,s6,s7,s8,s9,hb,hw,rfl⟩
    have hw2:BW marks n (DA marks n) bo:=hw.weak fun f s m a=>⟨fun h=>h.2,fun h=>⟨by omega,h⟩⟩
    cases bo with
    | none =>
      have hb:v = .non:=hb
      subst hb
      refine ⟨_,rfl,true,by rw [decide_eq_true rfl],?_⟩
      refine ite2 (fun _=>?_) (fun c=>absurd rfl c)
      exact q .non none _ s1 rfl hw2
    | some q4 =>
      obtain ⟨f,s,m,a⟩:=q4
      obtain ⟨r6,r7,e6,er6,er7⟩:=hb
      subst e6
      refine ⟨_,rfl,false,by rw [decide_eq_false (fun h=>nomatch h)],?_⟩
      refine ite2 (fun c=>absurd c (by decide)) (fun _=>?_)
      exact ⟨_,rfl,r6,_,_,.ref r7,rfl,rfl,SqT.of er6,rfl,q (.ref r7) (some (f,s,m,a)) _ s1 ⟨r7,rfl,er7⟩ hw2⟩
end
end My
end
section
-- text: U26
set_option Elab.async false
set_option linter.all false
set_option maxRecDepth 100000
set_option maxHeartbeats 4000000
namespace My
open PySem PySem.W L2 Dg
noncomputable def yci (K:PySem.W.Frag) (l:List Addr):Bool:=l.all (fun D=>kitOne K (.type "NoneType") (.ref D)==some false)&&(kitOne K (.type "NoneType") (.type "ValueError")==some false)
theorem zcn {K:PySem.W.Frag} {l:List Addr} (h:yci K l=true):∀ {ds:List Addr},(∀D∈ds,D∈l)→kitAny K (.type "NoneType") (ds.map Value.ref)=some false
  | [],_=>rfl
  | D::ds,hd=>by
    have h1:kitOne K (.type "NoneType") (.ref D)=some false:=by
      unfold yci at h
      simp only [Bool.and_eq_true,List.all_eq_true,beq_iff_eq] at h
      exact h.1 D (hd D List.mem_cons_self)
    show (match kitOne K (.type "NoneType") (.ref D) with|some true=>some true|some false=>kitAny K (.type "NoneType") (ds.map Value.ref)|none=>none)=some false
    rw [h1]
    exact zcn h fun D' hD'=>hd D' (List.mem_cons_of_mem _ hD')
theorem ydX {K:PySem.W.Frag} {l:List Addr} (h:yci K l=true) {D:Addr} (hd:D∈l):kitOne K (.type "NoneType") (.ref D)=some false:=by
  unfold yci at h
  simp only [Bool.and_eq_true,List.all_eq_true,beq_iff_eq] at h
  exact h.1 D hd
section
variable {P:Program} {w:World} {K:PySem.W.Frag} {mg:Str→Option Value} {base:Heap} {f:Addr} {fd:FuncData} {Re By Nr Tm Nt Nl:Addr}
noncomputable def zfa (K:PySem.W.Frag):Sp:=fun vs H Q _=>∃(wh fa mk:Addr) (p m t few root n:Nat) (marks:List Nat),vs=[.ref wh]∧WhAt H wh fa mk few root marks∧Fld K H fa p m t∧Good p m t∧Whl p m t few root n marks∧n≤64∧∀H',Same H H'→Q (.bl (decide (15<n))) H'
theorem zaF:zak ["_law_wheel_here","_law_caught","error","_law_others"] ["_law_wheel_here"] (zac yaD):=⟨rfl,rfl,rfl,by decide +kernel,rfl,by decide +kernel,by decide +kernel⟩
theorem yf8 (EN:yci K [By,Nr,Tm,Nt,Nl]=true) (B:Bl mg) (ER:Errs K mg Re By Nr Tm Nt Nl) (h_best_wide:HasX P w K mg base 6 "best_wide" ["wheel"] (zfi K Tm)) (F:Fun K "_law_refused" "_law_refused" yaD f fd):FnOk P w K mg base CX0 7 f fd ["_law_wheel_here"] (zfa K):=by
  refine F.ok zaF (fun vs H Q E h=>?_) (fun cdv A outer s H vs Q E hr h=>?_)
  · obtain ⟨wh,fa,mk,p,m,t,few,root,n,marks,rfl,_⟩:=h;rfl
  obtain ⟨wh,fa,mk,p,m,t,few,root,n,marks,rfl,hW,hF,G,W,hn,q⟩:=h
  refine ⟨_,(@yaa _ _ _ _ _ (@yag _ _ 1 _ _ _ _ zaF.nd rfl (Or.inl rfl) ycs (by rfl) (by first|exact .inl rfl|exact .inr rfl|assumption)) (@yaa _ _ _ _ _ (@yf3 _ _ _ _ _ _ 2 _ _ _ _ _ _ ⟨rfl,rfl⟩ zaF.nd rfl rfl rfl ER.mRe (fun pins F=>(@zad _ _ _ (@zbp _ _ _ _ (@ze8 _ _ _ _ _ _ _ _ _ _ _ _ _ h_best_wide hr (by decide) rfl (@zaa _ _ _ _ _ (pv 0) yab (by rfl)) (by decide) (by rfl) (by rfl)) (by rfl)))) (fun a=>(@zad _ _ _ (@yag _ _ 1 _ _ _ _ zaF.nd rfl (Or.inl rfl) (pv 2) (by rfl) (by first|exact .inl rfl|exact .inr rfl|assumption)))) (by decide)) (@yaa _ _ _ _ _ (@yag _ _ 3 _ _ _ _ zaF.nd rfl (Or.inl rfl) (@yan _ _ _ _ _ _ _ _ _ (zcB (K:=K) rfl) rfl (B "isinstance" (by decide)) PyProof.Rows.boot_isinstance (@zaa _ _ _ _ _ (pv 1) (@zaa _ _ _ _ _ (@ybm _ _ _ _ _ (@zaa _ _ _ _ _ (@zbB _ _ _ _ _ rfl ER.mBy (ybJ _) (by decide)) (@zaa _ _ _ _ _ (@zbB _ _ _ _ _ rfl ER.mNl (ybJ _) (by decide)) (@zaa _ _ _ _ _ (@zbB _ _ _ _ _ rfl ER.mNr (ybJ _) (by decide)) (@zaa _ _ _ _ _ (@zbB _ _ _ _ _ rfl ER.mNt (ybJ _) (by decide)) yab (by rfl)) (by rfl)) (by rfl)) (by rfl))) yab (by rfl)) (by rfl)) (by decide) (by decide) (by rfl) (by rfl)) (by rfl) (by first|exact .inl rfl|exact .inr rfl|assumption)) (@zad _ _ _ (@yal _ _ _ _ (@ycQ _ _ _ _ _ _ _ (@yan _ _ _ _ _ _ _ _ _ (zcB (K:=K) rfl) rfl (B "isinstance" (by decide)) PyProof.Rows.boot_isinstance (@zaa _ _ _ _ _ (pv 1) (@zaa _ _ _ _ _ (@zbB _ _ _ _ _ rfl ER.mTm (ybJ _) (by decide)) yab (by rfl)) (by rfl)) (by decide) (by decide) (by rfl) (by rfl)) (@ycQ _ _ _ _ _ _ _ (@yan _ _ _ _ _ _ _ _ _ (zcB (K:=K) rfl) rfl (B "isinstance" (by decide)) PyProof.Rows.boot_isinstance (@zaa _ _ _ _ _ (pv 1) (@zaa _ _ _ _ _ (@zcE _ _ _ _ _ rfl ER.mV ybE (yfq _) (by decide) (by decide)) yab (by rfl)) (by rfl)) (by decide) (by decide) (by rfl) (by rfl)) (@yeg _ _ _ _ _ (@zfb _ _ _ _ (pv 3)))))))))),?_⟩
  dsimp only [zas]
  refine ⟨_,rfl,wh,fa,mk,p,m,t,few,root,n,marks,rfl,hW,hF,G,W,hn,fun hbig=>⟨Tm,rfl,ER.match_ (by simp),fun ex hex=>?_⟩,fun hsm v H1 s1=>?_⟩
  · have s1:=yad hex (ExcO ex Tm)
    have ex1:upd H ex (ExcO ex Tm) ex=some (ExcO ex Tm):=yac
    have one:=ER.one (C:=Tm) (by simp)
    have nd:=ER.nd
    simp only [List.nodup_cons,List.mem_cons,List.not_mem_nil,or_false,not_or] at nd
    have hd:decide (15<n)=true:=decide_eq_true hbig
    rw [hd] at q
    refine ⟨_,rfl,?_⟩
    dsimp only [zas]
    refine ⟨_,rfl,szl 4,fun tp htp=>?_⟩
    have s5:=yad htp (.tup [.ref By,.ref Nl,.ref Nr,.ref Nt])
    refine ⟨_,_,_,_,rfl,.exc (s5 _ _ ex1) one,.tup (ds:=[By,Nl,Nr,Nt]) yac (ER.any_no (by simp) ?_),?_⟩
    · intro D hD
      simp only [List.mem_cons,List.not_mem_nil,or_false] at hD
      rcases hD with rfl|rfl|rfl|rfl
      · exact ⟨by simp,fun e=>nd.1.2.1 e.symm⟩
      · exact ⟨by simp,nd.2.2.1.2⟩
      · exact ⟨by simp,fun e=>nd.2.1.1 e.symm⟩
      · exact ⟨by simp,nd.2.2.1.1⟩
    dsimp only [zas]
    refine ⟨_,rfl,_,_,_,_,rfl,.exc (s5 _ _ ex1) one,.own (ER.yes (by simp)),true,rfl,?_⟩
    refine ite2 (fun _=>?_) (fun c=>absurd rfl c)
    refine ⟨_,rfl,_,_,_,_,rfl,.exc (s5 _ _ ex1) one,.ty (ER.val (by simp)),true,rfl,?_⟩
    refine ite2 (fun _=>?_) (fun c=>absurd rfl c)
    exact ⟨_,rfl,false,rfl,q _ (s1.trans s5)⟩
  · dsimp only [zas]
    have hd:decide (15<n)=false:=decide_eq_false (by omega)
    rw [hd] at q
    refine ⟨_,rfl,szl 4,fun tp htp=>?_⟩
    have s5:=yad htp (.tup [.ref By,.ref Nl,.ref Nr,.ref Nt])
    refine ⟨_,_,_,_,rfl,.non,.tup (ds:=[By,Nl,Nr,Nt]) yac (zcn EN ?_),?_⟩
    · intro D hD
      simp only [List.mem_cons,List.not_mem_nil,or_false] at hD ⊢
      rcases hD with rfl|rfl|rfl|rfl <;> simp
    dsimp only [zas]
    refine ⟨_,rfl,_,_,_,_,rfl,.non,.own (ydX EN (by simp)),false,rfl,?_⟩
    refine ite2 (fun c=>absurd c (by decide)) (fun _=>?_)
    exact q _ (s1.trans s5)
end
end My
end
section
-- text: V26
set_option Elab.async false
set_option linter.all false
set_option maxRecDepth 100000
set_option maxHeartbeats 4000000
namespace My
open PySem L2 Dg
theorem yei {marks:List Nat} {n f s m a:Nat} (hn1:1≤n) (h:DA marks n f s m a):widL n marks ([f,s,m,a,agN marks n f s m a].map Vn)=true:=by
  obtain ⟨h1,h2,h3,h4,h5,h6,h7⟩:=h
  have hs:=zbg.mp h2
  have hr:=zbN marks n f s
  have hrl:=hr.le
  obtain ⟨a1,a2,a3⟩:=zco marks n f s m a
  show zc1 n marks (f:Int) (s:Int) (m:Int) (a:Int) (agN marks n f s m a:Int)=true
  unfold zc1
  rw [decide_eq_true (show wdC n (f:Int) (s:Int) (m:Int) (a:Int) (agN marks n f s m a:Int) from ⟨by omega,by omega,by omega,by omega,by rw [Int.toNat_natCast];exact hs.2.2,by omega,by omega,by omega,by omega,by omega,by omega,by rw [Int.toNat_natCast];omega⟩),Bool.true_and]
  simp only [Int.toNat_natCast]
  refine List.all_eq_true.mpr fun k hk=>List.all_eq_true.mpr fun j hj=>decide_eq_true ?_
  have hk:=List.mem_range.mp hk
  have hj:=List.mem_range.mp hj
  cases j with
  | zero=>rw [Nat.zero_mul,Nat.add_zero];exact hr.all k (by omega)
  | succ j =>
    have hp:m≤rnN marks n ((f+(j+1)*a)%n) s:=a2 j (by omega)
    have:=(zbN marks n ((f+(j+1)*a)%n) s).all k (by omega)
    rw [Nat.mod_add_mod,show f+(j+1)*a+k*s=f+k*s+(j+1)*a by omega] at this
    exact this
section
variable {P:Program} {w:World} {K:PySem.W.Frag} {mg:Str→Option Value} {base:Heap} {f:Addr} {fd:FuncData}
noncomputable def zc0 (K:PySem.W.Frag):Sp:=fun vs H Q _=>∃(a:Addr) (ns:List Int),vs=[.ref a]∧SqL K H a (ns.map V.int)∧∀H',Q (.bl true) H'
theorem zbF:zak ["_law_script","_law_purse_here","_law_turn","_law_table_here","_law_wheel_here","_law_due_here","_law_again"] ["_law_script"] (zac ycN):=⟨rfl,rfl,rfl,by decide +kernel,rfl,by decide +kernel,by decide +kernel⟩
theorem yfW (B:Bl mg) (h__law_purse:Has P w K mg base 1 "_law_purse" ["_law_script"] (ydP K)) (h__law_pick:Has P w K mg base 1 "_law_pick" ["_law_purse_here","_law_many"] ycA) (h__law_wheel:Has P w K mg base 5 "_law_wheel" ["_law_purse_here","_law_most"] zcU) (h__law_roots:Has P w K mg base 2 "_law_roots" ["_law_table_here","_law_root"] ycU)
    (h__law_due:Has P w K mg base 2 "_law_due" ["_law_marks","_law_n"] (yfd K)) (h_best_wide:Has P w K mg base 6 "best_wide" ["wheel"] (zf3 K)) (h_shows_wide:Has P w K mg base 6 "shows_wide" ["wheel","thing"] (ycW K)) (h__law_refused:Has P w K mg base 7 "_law_refused" ["_law_wheel_here"] (zfa K)) (F:Fun K "law" "law" ycN f fd):FnOk P w K mg base CX0 8 f fd ["_law_script"] (zc0 K):=by
  refine F.ok zbF (fun vs H Q E h=>?_) (fun cdv A outer s H vs Q E hr h=>?_)
  · obtain ⟨a,ns,rfl,_⟩:=h;rfl
  obtain ⟨a,ns,rfl,ha,q⟩:=h
  refine ⟨_,(@yaa _ _ _ _ _ (@yag _ _ 1 _ _ _ _ zbF.nd rfl (Or.inl rfl) (@zae _ _ _ _ _ _ _ _ _ _ _ h__law_purse hr (by decide) rfl (@zaa _ _ _ _ _ (pv 0) yab (by rfl)) (by decide) (by rfl) (by rfl)) (by rfl) (by first|exact .inl rfl|exact .inr rfl|assumption)) (@yaa _ _ _ _ _ (@zaz _ _ _ _ _ _ _ _ PassesOwn.never rfl (@yay _ _ _ _ _ _ rfl (B "range" (by decide)) (@zaa _ _ _ _ _ zab yab (by rfl)) (by rfl)) (@zaf _ _ 2 _ zbF.nd rfl (Or.inl rfl) (by first|exact .inl rfl|exact .inr rfl|assumption)) (@yaa _ _ _ _ _ (@ybn _ _ _ _ _ _ (@zae _ _ _ _ _ _ _ _ _ _ _ h__law_wheel hr (by decide) rfl (@zaa _ _ _ _ _ (pv 1) (@zaa _ _ _ _ _ (@zan _ _ _ _ _ _ _ yam (@zaZ _ _ _ _ (@zaa _ _ _ _ _ zab (@zaa _ _ _ _ _ zab yab (by rfl)) (by rfl))) (@ybG _ _ _ _ _ _ _ _ _ yea rfl (B "int" (by decide)) yb8 (@zaa _ _ _ _ _ (@zbP _ _ _ _ _ _ _ _ yby (@zae _ _ _ _ _ _ _ _ _ _ _ h__law_pick hr (by decide) rfl (@zaa _ _ _ _ _ (pv 1) (@zaa _ _ _ _ _ zab yab (by rfl)) (by rfl)) (by decide) (by rfl) (by rfl)) zab (yai _)) yab (by rfl)) (by decide) (by decide) (by rfl) (by rfl)) (fun _ _=>rfl)) yab (by rfl)) (by rfl)) (by decide) (by rfl) (by rfl)) (@zbo _ _ _ _ _ _ rfl (@yak _ _ _ _ _ (@zaf _ _ 3 _ zbF.nd rfl (Or.inl rfl) (by first|exact .inl rfl|exact .inr rfl|assumption)) (@yak _ _ _ _ _ (@zaf _ _ 4 _ zbF.nd rfl (Or.inl rfl) (by first|exact .inl rfl|exact .inr rfl|assumption)) za1 (by rfl)) (by rfl)) (by rfl) (by rfl)) (by rfl) (by rfl) (by rfl)) (@yaa _ _ _ _ _ (@yag _ _ 5 _ _ _ _ zbF.nd rfl (Or.inl rfl) (@zae _ _ _ _ _ _ _ _ _ _ _ h__law_due hr (by decide) rfl (@zaa _ _ _ _ _ (@zan _ _ _ _ _ _ _ yaw (pv 4) zab (fun _ _=>rfl)) (@zaa _ _ _ _ _ (@yan _ _ _ _ _ _ _ _ _ yaz rfl (B "len" (by decide)) PySem.boot_len (@zaa _ _ _ _ _ (@zae _ _ _ _ _ _ _ _ _ _ _ h__law_roots hr (by decide) rfl (@zaa _ _ _ _ _ (pv 3) (@zaa _ _ _ _ _ (@zan _ _ _ _ _ _ _ yaw (pv 4) zab (fun _ _=>rfl)) yab (by rfl)) (by rfl)) (by decide) (by rfl) (by rfl)) yab (by rfl)) (by decide) (by decide) (by rfl) (by rfl)) yab (by rfl)) (by rfl)) (by decide) (by rfl) (by rfl)) (by rfl) (by first|exact .inl rfl|exact .inr rfl|assumption)) (@yaa _ _ _ _ _ (@zaz _ _ _ _ _ _ _ _ PassesOwn.never rfl (@yay _ _ _ _ _ _ rfl (B "range" (by decide)) (@zaa _ _ _ _ _ zab yab (by rfl)) (by rfl)) (@zaf _ _ 6 _ zbF.nd rfl (Or.inl rfl) (by first|exact .inl rfl|exact .inr rfl|assumption)) (@zad _ _ _ (@ya0 _ _ _ _ _ _ _ _ (@zah _ _ _ _ _ _ _ _ yc2 (@yan _ _ _ _ _ _ _ _ _ (yaT.or (ycl hr.gd hr.units) ycp) rfl (B "repr" (by decide)) PyProof.Rows.boot_repr (@zaa _ _ _ _ _ (@zae _ _ _ _ _ _ _ _ _ _ _ h_best_wide hr (by decide) rfl (@zaa _ _ _ _ _ (pv 4) yab (by rfl)) (by decide) (by rfl) (by rfl)) yab (by rfl)) (by decide) (by decide) (by rfl) (by rfl)) (@yan _ _ _ _ _ _ _ _ _ (yaT.or (ycl hr.gd hr.units) ycp) rfl (B "repr" (by decide)) PyProof.Rows.boot_repr (@zaa _ _ _ _ _ (pv 5) yab (by rfl)) (by decide) (by decide) (by rfl) (by rfl)) (yai _)) (@zad _ _ _ (@yal _ _ _ _ zcM)) zat)) (by intro _;rfl)) (@zad _ _ _ (@ya0 _ _ _ _ _ _ _ _ (@PW.pt _ _ _ (@ybU _ _ _ _ _ _ _ (@zah _ _ _ _ _ _ _ _ yfG (pv 5) ycs (yai _)) (@zbC _ _ _ _ (@zah _ _ _ _ _ _ _ _ yfr (@zae _ _ _ _ _ _ _ _ _ _ _ h_shows_wide hr (by decide) rfl (@zaa _ _ _ _ _ (pv 4) (@zaa _ _ _ _ _ (pv 5) yab (by rfl)) (by rfl)) (by decide) (by rfl) (by rfl)) zcM (yai _))))) (@zad _ _ _ (@yal _ _ _ _ zcM)) zat))))) (by intro _;rfl)) (@yaa _ _ _ _ _ (@ybn _ _ _ _ _ _ (@zae _ _ _ _ _ _ _ _ _ _ _ h__law_wheel hr (by decide) rfl (@zaa _ _ _ _ _ (pv 1) (@zaa _ _ _ _ _ zab yab (by rfl)) (by rfl)) (by decide) (by rfl) (by rfl)) (@zbo _ _ _ _ _ _ rfl (@yak _ _ _ _ _ (@zaf _ _ 3 _ zbF.nd rfl (Or.inl rfl) (by first|exact .inl rfl|exact .inr rfl|assumption)) (@yak _ _ _ _ _ (@zaf _ _ 4 _ zbF.nd rfl (Or.inl rfl) (by first|exact .inl rfl|exact .inr rfl|assumption)) za1 (by rfl)) (by rfl)) (by rfl) (by rfl)) (by rfl) (by rfl) (by rfl)) (@zad _ _ _ (@yal _ _ _ _ (@zbP _ _ _ _ _ _ _ _ yby (@zae _ _ _ _ _ _ _ _ _ _ _ h__law_refused hr (by decide) rfl (@zaa _ _ _ _ _ (pv 4) yab (by rfl)) (by decide) (by rfl) (by rfl)) (@zbP _ _ _ _ _ _ _ _ zby (@yan _ _ _ _ _ _ _ _ _ yaz rfl (B "len" (by decide)) PySem.boot_len (@zaa _ _ _ _ _ (@zae _ _ _ _ _ _ _ _ _ _ _ h__law_roots hr (by decide) rfl (@zaa _ _ _ _ _ (pv 3) (@zaa _ _ _ _ _ (@zan _ _ _ _ _ _ _ yaw (pv 4) zab (fun _ _=>rfl)) yab (by rfl)) (by rfl)) (by decide) (by rfl) (by rfl)) yab (by rfl)) (by decide) (by decide) (by rfl) (by rfl)) zab (yai _)) (yai _))))))),?_⟩
  refine ⟨_,rfl,a,ns,rfl,ha,fun pu g H1 n1 n2 s1 hP=>?_⟩
  refine ⟨2,rfl,by decide,by decide,?_⟩
  refine zaY (n:=2) (fun i σ H'=>Pu H' pu g∧∃s2 s3 s4 s5 s6,σ=[some (.ref a),some (.ref pu),s2,s3,s4,s5,s6]) ⟨hP,none,none,none,none,none,rfl⟩ ?_ ?_
  · rintro j σ H2 hj ⟨hP2,s2,s3,s4,s5,s6,rfl⟩
    refine ⟨_,rfl,szl 2,fun l0 hl0=>?_⟩
    have sl:=yad hl0 (.lst [.int 9,.int 15])
    refine ⟨_,rfl,pu,g,8,rfl,hP2.same sl,by omega,by omega,fun v H3 hv hP3 sx3=>?_⟩
    refine ⟨rfl,.inr ⟨_,rfl,?_⟩⟩
    have nl0:=hP2.lt hl0
    have el:=sx3 _ _ nl0.1 nl0.2 (show upd H2 l0 (.lst [.int 9,.int 15]) l0=some (.lst [.int 9,.int 15]) from yac)
    obtain ⟨top,htop,htop2,etop⟩:∃top:Nat,1≤top∧top≤15∧atI [V.int 9,V.int 15] (if decide (Vn v=V.int 7)=true then 1 else 0)=some (Vn top):=by
      by_cases c:decide (Vn v=V.int 7)=true
      · rw [if_pos c];exact ⟨15,by decide,by decide,rfl⟩
      · rw [if_neg c];exact ⟨9,by decide,by decide,rfl⟩
    refine ⟨l0,_,_,Vn top,rfl,rfl,SqL.of el,etop,?_⟩
    refine ⟨pu,g,top,rfl,hP3,htop,fun r tb fa pa la wh mk p m t b few root n marks H4 er T ap hW nwh nmk nr W hn hP4 sx4=>?_⟩
    refine ⟨r,_,rfl,SqT.of er,rfl,_,_,rfl,_,_,rfl,rfl,?_⟩
    have G:=T.good
    have hQ:=T.good.hq
    have hnq:=W.nq
    have hn1:=W.ord.pos
    dsimp only [zas]
    refine ⟨_,rfl,wh,_,_,.ref mk,rfl,rfl,SqT.of hW.w,rfl,_,rfl,_,rfl,wh,_,_,Vn root,rfl,rfl,SqT.of hW.w,rfl,tb,fa,pa,la,p,m,t,b,root,rfl,T,W.r0,W.rq,fun n' rr H5 o' hn' s5' nrr err=>?_⟩
    cases o'.uniq W.ord
    refine ⟨rr,_,rfl,.inl (SqL.of err),?_⟩
    refine ⟨mk,n,marks,by rw [List.length_map,zb0];rfl,(hW.same s5').k,hn1,by omega,fun v bo H6 s6' hbs hbw=>?_⟩
    have s56:=s5'.trans s6'
    have hP6:=hP4.same s56
    have T6:=T.same s56
    have hW6:=hW.same s56
    dsimp only [zas]
    refine ⟨2,rfl,by decide,by decide,?_⟩
    refine zaY (n:=2) (fun i σ H'=>Same H6 H'∧∃s6:Option V,σ=[some (.ref a),some (.ref pu),some (.int (0+(j:Int))),some (.ref tb),some (.ref wh),some v,s6]) ⟨Same.refl _,_,rfl⟩ ?_ ?_
    · rintro i σ H7 hi ⟨s7,s6q,rfl⟩
      refine ⟨_,rfl,wh,fa,mk,p,m,t,few,root,n,marks,rfl,hW6.same s7,(T6.same s7).fld,G,W,by omega,fun v2 bo2 H8 s8 hb2 hw2=>?_⟩
      cases hw2.uniq hbw
      have hbs8:=(hbs.same s7).same s8
      cases bo with
      | none =>
        have e1:v = .non:=hbs
        have e2:v2 = .non:=hb2
        subst e1;subst e2
        refine .inr ⟨.non,rfl,.inr rfl,?_⟩
        refine ⟨_,rfl,.inr ⟨.non,rfl,.inr rfl,?_⟩⟩
        refine ⟨rfl,false,by rw [decide_eq_true rfl];rfl,?_⟩
        refine ite2 (fun c=>absurd c (by decide)) (fun _=>?_)
        exact ⟨s7.trans s8,_,rfl⟩
      | some q4 =>
        obtain ⟨f,s,m',a'⟩:=q4
        obtain ⟨r1,e1,er1⟩:=hbs8
        obtain ⟨r2,e2,er2⟩:=hb2
        subst e1;subst e2
        have hd:=hbw.1
        obtain ⟨d1,d2,d3,d4,d5,d6,d7⟩:=hd
        have dst:=zbg.mp d2
        have drl:=(zbN marks n f s).le
        have dag:=(zco marks n f s m' a').1
        have okd:DOk (.tuple ([f,s,m',a',agN marks n f s m' a'].map fun n:Nat=>PyData.int (n:Int))) (2^20):=zfI (fun x hx=>by
          simp only [List.mem_cons,List.not_mem_nil,or_false] at hx
          rcases hx with rfl|rfl|rfl|rfl|rfl <;> omega) (by show 5≤100;decide)
        refine .inl ⟨r2,_,rfl,yel (k:=8) (SqT.of er2),okd,?_⟩
        refine ⟨_,rfl,.inl ⟨r1,_,rfl,yel (k:=8) (SqT.of er1),okd,?_⟩⟩
        refine ⟨rfl,false,by rw [decide_eq_true rfl];rfl,?_⟩
        refine ite2 (fun c=>absurd c (by decide)) (fun _=>?_)
        exact ⟨s7.trans s8,_,rfl⟩
    · rintro σ H7 ⟨s7,s6q,rfl⟩
      have hbs7:=hbs.same s7
      cases bo with
      | none =>
        have e1:v = .non:=hbs7
        subst e1
        refine ⟨_,rfl,rfl,false,by rw [decide_eq_true rfl];rfl,?_⟩
        refine ite2 (fun c=>absurd c (by decide)) (fun _=>?_)
        refine ite2 (fun c=>absurd c (by decide)) (fun _=>?_)
        exact ⟨hP6.same s7,_,_,_,_,_,rfl⟩
      | some q4 =>
        obtain ⟨f,s,m',a'⟩:=q4
        obtain ⟨r1,e1,er1⟩:=hbs7
        subst e1
        refine ⟨_,rfl,rfl,true,by rw [decide_eq_false (fun h=>nomatch h)];rfl,?_⟩
        refine ite2 (fun _=>?_) (fun c=>absurd rfl c)
        refine ⟨_,rfl,_,rfl,wh,fa,mk,p,m,t,few,root,n,marks,.ref r1,true,rfl,hW6.same s7,(T6.same s7).fld,G,W,.inr ⟨r1,[f,s,m',a',agN marks n f s m' a'].map Vn,rfl,SqT.of er1,by show 5≤200;decide,fun e he=>?_,(yei hn1 hbw.1).symm⟩,fun H8 s8=>?_⟩
        · obtain ⟨y,_,rfl⟩:=List.mem_map.mp he
          exact ⟨"int",.inl rfl⟩
        refine ⟨true,true,rfl,rfl,false,rfl,?_⟩
        refine ite2 (fun c=>absurd c (by decide)) (fun _=>?_)
        exact ⟨hP6.same (s7.trans s8),_,_,_,_,_,rfl⟩
  · rintro σ H2 ⟨hP2,s2,s3,s4,s5,s6,rfl⟩
    refine ⟨_,rfl,pu,g,63,rfl,hP2,by decide,fun r tb fa pa la wh mk p m t b few root n marks H4 er T ap hW nwh nmk nr W hn hP4 sx4=>?_⟩
    refine ⟨r,_,rfl,SqT.of er,rfl,_,_,rfl,_,_,rfl,rfl,?_⟩
    have G:=T.good
    dsimp only [zas]
    refine ⟨_,rfl,wh,fa,mk,p,m,t,few,root,n,marks,rfl,hW,T.fld,G,W,by omega,fun H5 s5'=>?_⟩
    refine ⟨_,rfl,_,rfl,wh,_,_,Vn root,rfl,rfl,SqT.of (hW.same s5').w,rfl,tb,fa,pa,la,p,m,t,b,root,rfl,T.same s5',W.r0,W.rq,fun n' rr H6 o' hn' s6' nrr err=>?_⟩
    cases o'.uniq W.ord
    refine ⟨rr,_,rfl,.inl (SqL.of err),?_⟩
    refine ⟨_,_,rfl,rfl,?_⟩
    refine ⟨rfl,?_⟩
    have e:decide ((15:Int)<(((Pwn p m t root n).map Vn).length:Int))=decide (15<n):=by
      rw [List.length_map,zb0]
      exact decide_eq_decide.mpr (by omega)
    have e2:decide (V.bl (decide (15<n))=V.bl (decide ((15:Int)<(((Pwn p m t root n).map Vn).length:Int))))=true:=decide_eq_true (by rw [e])
    dsimp only
    rw [e2]
    exact q _
end
end My
end
section
-- text: Z26
set_option Elab.async false
set_option linter.all false
set_option maxRecDepth 100000
set_option maxHeartbeats 4000000
namespace My
open PySem L2 Dg
theorem ye8 {K:PySem.W.Frag} {H:Hp} {a:Addr} {ns:List Int} {E:XK} (hl:ns.length≤63) (hS:SqL K H a (ns.map V.int)):zc0 K [.ref a] H (fun v _=>v = .bl true) E:=⟨a,ns,rfl,hS,fun _=>rfl⟩
theorem all_mk {l:PySem.W.OpenLaw} {w:World} {K:PySem.W.Frag} {h:Heap} {mg:Str→Option Value} {fa:Addr} (X:K.In h) (G:h.Ns mainGlobals mg) (hfa:mg "law"=some (.ref fa))
    {f1:Addr} {od1 an1:Option Addr} {sl1:Array (Option Value)} {oc1 kV1 dc1 pm1 cd1 ct1:Value} {f2:Addr} {od2 an2:Option Addr} {sl2:Array (Option Value)} {oc2 kV2 dc2 pm2 cd2 ct2:Value} {f3:Addr} {od3 an3:Option Addr} {sl3:Array (Option Value)} {oc3 kV3 dc3 pm3 cd3 ct3:Value} {f4:Addr} {od4 an4:Option Addr} {sl4:Array (Option Value)} {oc4 kV4 dc4 pm4 cd4 ct4:Value} {f5:Addr} {od5 an5:Option Addr} {sl5:Array (Option Value)} {oc5 kV5 dc5 pm5 cd5 ct5:Value} {f6:Addr} {od6 an6:Option Addr} {sl6:Array (Option Value)} {oc6 kV6 dc6 pm6 cd6 ct6:Value} {f7:Addr} {od7 an7:Option Addr} {sl7:Array (Option Value)} {oc7 kV7 dc7 pm7 cd7 ct7:Value} {f8:Addr} {od8 an8:Option Addr} {sl8:Array (Option Value)} {oc8 kV8 dc8 pm8 cd8 ct8:Value} {f9:Addr} {od9 an9:Option Addr} {sl9:Array (Option Value)} {oc9 kV9 dc9 pm9 cd9 ct9:Value} {f10:Addr} {od10 an10:Option Addr} {sl10:Array (Option Value)} {oc10 kV10 dc10 pm10 cd10 ct10:Value} {f11:Addr} {od11 an11:Option Addr} {sl11:Array (Option Value)} {oc11 kV11 dc11 pm11 cd11 ct11:Value} {f12:Addr} {od12 an12:Option Addr} {sl12:Array (Option Value)} {oc12 kV12 dc12 pm12 cd12 ct12:Value} {f13:Addr} {od13 an13:Option Addr} {sl13:Array (Option Value)} {oc13 kV13 dc13 pm13 cd13 ct13:Value} {f14:Addr} {od14 an14:Option Addr} {sl14:Array (Option Value)} {oc14 kV14 dc14 pm14 cd14 ct14:Value} {f15:Addr} {od15 an15:Option Addr} {sl15:Array (Option Value)} {oc15 kV15 dc15 pm15 cd15 ct15:Value} {f16:Addr} {od16 an16:Option Addr} {sl16:Array (Option Value)} {oc16 kV16 dc16 pm16 cd16 ct16:Value} {f17:Addr} {od17 an17:Option Addr} {sl17:Array (Option Value)} {oc17 kV17 dc17 pm17 cd17 ct17:Value} {f18:Addr} {od18 an18:Option Addr} {sl18:Array (Option Value)} {oc18 kV18 dc18 pm18 cd18 ct18:Value} {f19:Addr} {od19 an19:Option Addr} {sl19:Array (Option Value)} {oc19 kV19 dc19 pm19 cd19 ct19:Value} {f20:Addr} {od20 an20:Option Addr} {sl20:Array (Option Value)} {oc20 kV20 dc20 pm20 cd20 ct20:Value} {f21:Addr} {od21 an21:Option Addr} {sl21:Array (Option Value)} {oc21 kV21 dc21 pm21 cd21 ct21:Value} {f22:Addr} {od22 an22:Option Addr} {sl22:Array (Option Value)} {oc22 kV22 dc22 pm22 cd22 ct22:Value} {f23:Addr} {od23 an23:Option Addr} {sl23:Array (Option Value)} {oc23 kV23 dc23 pm23 cd23 ct23:Value} {f24:Addr} {od24 an24:Option Addr} {sl24:Array (Option Value)} {oc24 kV24 dc24 pm24 cd24 ct24:Value} {f25:Addr} {od25 an25:Option Addr} {sl25:Array (Option Value)} {oc25 kV25 dc25 pm25 cd25 ct25:Value} {f26:Addr} {od26 an26:Option Addr} {sl26:Array (Option Value)} {oc26 kV26 dc26 pm26 cd26 ct26:Value} {f27:Addr} {od27 an27:Option Addr} {sl27:Array (Option Value)} {oc27 kV27 dc27 pm27 cd27 ct27:Value} {f28:Addr} {od28 an28:Option Addr} {sl28:Array (Option Value)} {oc28 kV28 dc28 pm28 cd28 ct28:Value} {f29:Addr} {od29 an29:Option Addr} {sl29:Array (Option Value)} {oc29 kV29 dc29 pm29 cd29 ct29:Value} {f30:Addr} {od30 an30:Option Addr} {sl30:Array (Option Value)} {oc30 kV30 dc30 pm30 cd30 ct30:Value} {f31:Addr} {od31 an31:Option Addr} {sl31:Array (Option Value)} {oc31 kV31 dc31 pm31 cd31 ct31:Value} {f32:Addr} {od32 an32:Option Addr} {sl32:Array (Option Value)} {oc32 kV32 dc32 pm32 cd32 ct32:Value} {f33:Addr} {od33 an33:Option Addr} {sl33:Array (Option Value)} {oc33 kV33 dc33 pm33 cd33 ct33:Value} {f34:Addr} {od34 an34:Option Addr} {sl34:Array (Option Value)} {oc34 kV34 dc34 pm34 cd34 ct34:Value} {f35:Addr} {od35 an35:Option Addr} {sl35:Array (Option Value)} {oc35 kV35 dc35 pm35 cd35 ct35:Value} {f36:Addr} {od36 an36:Option Addr} {sl36:Array (Option Value)} {oc36 kV36 dc36 pm36 cd36 ct36:Value}
    (a1:PySem.W.nsIn K mainGlobals "is_whole"=some (some (.ref f1))) (l1:K.lookup f1=some ⟨oc1,od1,.func (PySem.W.fnOf "is_whole" "is_whole" (yaj ya5) (zai ya5) (zac ya5) .none kV1 dc1 pm1 an1 cd1 ct1),sl1⟩) (c1:PySem.W.codeIn K cd1 "is_whole"=true) (k1:PySem.W.keepIn K (.ref f1)=true)
    (a2:PySem.W.nsIn K mainGlobals "is_wholes"=some (some (.ref f2))) (l2:K.lookup f2=some ⟨oc2,od2,.func (PySem.W.fnOf "is_wholes" "is_wholes" (yaj yaO) (zai yaO) (zac yaO) .none kV2 dc2 pm2 an2 cd2 ct2),sl2⟩) (c2:PySem.W.codeIn K cd2 "is_wholes"=true) (k2:PySem.W.keepIn K (.ref f2)=true)
    (a3:PySem.W.nsIn K mainGlobals "number_power"=some (some (.ref f3))) (l3:K.lookup f3=some ⟨oc3,od3,.func (PySem.W.fnOf "number_power" "number_power" (yaj yaC) (zai yaC) (zac yaC) .none kV3 dc3 pm3 an3 cd3 ct3),sl3⟩) (c3:PySem.W.codeIn K cd3 "number_power"=true) (k3:PySem.W.keepIn K (.ref f3)=true)
    (a4:PySem.W.nsIn K mainGlobals "greatest_common"=some (some (.ref f4))) (l4:K.lookup f4=some ⟨oc4,od4,.func (PySem.W.fnOf "greatest_common" "greatest_common" (yaj yar) (zai yar) (zac yar) .none kV4 dc4 pm4 an4 cd4 ct4),sl4⟩) (c4:PySem.W.codeIn K cd4 "greatest_common"=true) (k4:PySem.W.keepIn K (.ref f4)=true)
    (a5:PySem.W.nsIn K mainGlobals "steps_round"=some (some (.ref f5))) (l5:K.lookup f5=some ⟨oc5,od5,.func (PySem.W.fnOf "steps_round" "steps_round" (yaj zaA) (zai zaA) (zac zaA) .none kV5 dc5 pm5 an5 cd5 ct5),sl5⟩) (c5:PySem.W.codeIn K cd5 "steps_round"=true) (k5:PySem.W.keepIn K (.ref f5)=true)
    (a6:PySem.W.nsIn K mainGlobals "plus"=some (some (.ref f6))) (l6:K.lookup f6=some ⟨oc6,od6,.func (PySem.W.fnOf "plus" "plus" (yaj zcr) (zai zcr) (zac zcr) .none kV6 dc6 pm6 an6 cd6 ct6),sl6⟩) (c6:PySem.W.codeIn K cd6 "plus"=true) (k6:PySem.W.keepIn K (.ref f6)=true)
    (a7:PySem.W.nsIn K mainGlobals "digit_times"=some (some (.ref f7))) (l7:K.lookup f7=some ⟨oc7,od7,.func (PySem.W.fnOf "digit_times" "digit_times" (yaj yaI) (zai yaI) (zac yaI) .none kV7 dc7 pm7 an7 cd7 ct7),sl7⟩) (c7:PySem.W.codeIn K cd7 "digit_times"=true) (k7:PySem.W.keepIn K (.ref f7)=true)
    (a8:PySem.W.nsIn K mainGlobals "lifted"=some (some (.ref f8))) (l8:K.lookup f8=some ⟨oc8,od8,.func (PySem.W.fnOf "lifted" "lifted" (yaj zbw) (zai zbw) (zac zbw) .none kV8 dc8 pm8 an8 cd8 ct8),sl8⟩) (c8:PySem.W.codeIn K cd8 "lifted"=true) (k8:PySem.W.keepIn K (.ref f8)=true)
    (a9:PySem.W.nsIn K mainGlobals "times"=some (some (.ref f9))) (l9:K.lookup f9=some ⟨oc9,od9,.func (PySem.W.fnOf "times" "times" (yaj ybM) (zai ybM) (zac ybM) .none kV9 dc9 pm9 an9 cd9 ct9),sl9⟩) (c9:PySem.W.codeIn K cd9 "times"=true) (k9:PySem.W.keepIn K (.ref f9)=true)
    (a10:PySem.W.nsIn K mainGlobals "round_of"=some (some (.ref f10))) (l10:K.lookup f10=some ⟨oc10,od10,.func (PySem.W.fnOf "round_of" "round_of" (yaj za5) (zai za5) (zac za5) .none kV10 dc10 pm10 an10 cd10 ct10),sl10⟩) (c10:PySem.W.codeIn K cd10 "round_of"=true) (k10:PySem.W.keepIn K (.ref f10)=true)
    (a11:PySem.W.nsIn K mainGlobals "length"=some (some (.ref f11))) (l11:K.lookup f11=some ⟨oc11,od11,.func (PySem.W.fnOf "length" "length" (yaj ybw) (zai ybw) (zac ybw) .none kV11 dc11 pm11 an11 cd11 ct11),sl11⟩) (c11:PySem.W.codeIn K cd11 "length"=true) (k11:PySem.W.keepIn K (.ref f11)=true)
    (a12:PySem.W.nsIn K mainGlobals "marked_run"=some (some (.ref f12))) (l12:K.lookup f12=some ⟨oc12,od12,.func (PySem.W.fnOf "marked_run" "marked_run" (yaj yaS) (zai yaS) (zac yaS) .none kV12 dc12 pm12 an12 cd12 ct12),sl12⟩) (c12:PySem.W.codeIn K cd12 "marked_run"=true) (k12:PySem.W.keepIn K (.ref f12)=true)
    (a13:PySem.W.nsIn K mainGlobals "runs_again"=some (some (.ref f13))) (l13:K.lookup f13=some ⟨oc13,od13,.func (PySem.W.fnOf "runs_again" "runs_again" (yaj yaQ) (zai yaQ) (zac yaQ) .none kV13 dc13 pm13 an13 cd13 ct13),sl13⟩) (c13:PySem.W.codeIn K cd13 "runs_again"=true) (k13:PySem.W.keepIn K (.ref f13)=true)
    (a14:PySem.W.nsIn K mainGlobals "wide_papers"=some (some (.ref f14))) (l14:K.lookup f14=some ⟨oc14,od14,.func (PySem.W.fnOf "wide_papers" "wide_papers" (yaj yaA) (zai yaA) (zac yaA) .none kV14 dc14 pm14 an14 cd14 ct14),sl14⟩) (c14:PySem.W.codeIn K cd14 "wide_papers"=true) (k14:PySem.W.keepIn K (.ref f14)=true)
    (a15:PySem.W.nsIn K mainGlobals "best_wide"=some (some (.ref f15))) (l15:K.lookup f15=some ⟨oc15,od15,.func (PySem.W.fnOf "best_wide" "best_wide" (yaj zaP) (zai zaP) (zac zaP) .none kV15 dc15 pm15 an15 cd15 ct15),sl15⟩) (c15:PySem.W.codeIn K cd15 "best_wide"=true) (k15:PySem.W.keepIn K (.ref f15)=true)
    (a16:PySem.W.nsIn K mainGlobals "is_start"=some (some (.ref f16))) (l16:K.lookup f16=some ⟨oc16,od16,.func (PySem.W.fnOf "is_start" "is_start" (yaj ya6) (zai ya6) (zac ya6) .none kV16 dc16 pm16 an16 cd16 ct16),sl16⟩) (c16:PySem.W.codeIn K cd16 "is_start"=true) (k16:PySem.W.keepIn K (.ref f16)=true)
    (a17:PySem.W.nsIn K mainGlobals "shows_wide"=some (some (.ref f17))) (l17:K.lookup f17=some ⟨oc17,od17,.func (PySem.W.fnOf "shows_wide" "shows_wide" (yaj zaG) (zai zaG) (zac zaG) .none kV17 dc17 pm17 an17 cd17 ct17),sl17⟩) (c17:PySem.W.codeIn K cd17 "shows_wide"=true) (k17:PySem.W.keepIn K (.ref f17)=true)
    (a18:PySem.W.nsIn K mainGlobals "_law_purse"=some (some (.ref f18))) (l18:K.lookup f18=some ⟨oc18,od18,.func (PySem.W.fnOf "_law_purse" "_law_purse" (yaj zaT) (zai zaT) (zac zaT) .none kV18 dc18 pm18 an18 cd18 ct18),sl18⟩) (c18:PySem.W.codeIn K cd18 "_law_purse"=true) (k18:PySem.W.keepIn K (.ref f18)=true)
    (a19:PySem.W.nsIn K mainGlobals "_law_pick"=some (some (.ref f19))) (l19:K.lookup f19=some ⟨oc19,od19,.func (PySem.W.fnOf "_law_pick" "_law_pick" (yaj yaV) (zai yaV) (zac yaV) .none kV19 dc19 pm19 an19 cd19 ct19),sl19⟩) (c19:PySem.W.codeIn K cd19 "_law_pick"=true) (k19:PySem.W.keepIn K (.ref f19)=true)
    (a20:PySem.W.nsIn K mainGlobals "_law_raised"=some (some (.ref f20))) (l20:K.lookup f20=some ⟨oc20,od20,.func (PySem.W.fnOf "_law_raised" "_law_raised" (yaj yaH) (zai yaH) (zac yaH) .none kV20 dc20 pm20 an20 cd20 ct20),sl20⟩) (c20:PySem.W.codeIn K cd20 "_law_raised"=true) (k20:PySem.W.keepIn K (.ref f20)=true)
    (a21:PySem.W.nsIn K mainGlobals "_law_digits"=some (some (.ref f21))) (l21:K.lookup f21=some ⟨oc21,od21,.func (PySem.W.fnOf "_law_digits" "_law_digits" (yaj zaK) (zai zaK) (zac zaK) .none kV21 dc21 pm21 an21 cd21 ct21),sl21⟩) (c21:PySem.W.codeIn K cd21 "_law_digits"=true) (k21:PySem.W.keepIn K (.ref f21)=true)
    (a22:PySem.W.nsIn K mainGlobals "_law_number"=some (some (.ref f22))) (l22:K.lookup f22=some ⟨oc22,od22,.func (PySem.W.fnOf "_law_number" "_law_number" (yaj yaK) (zai yaK) (zac yaK) .none kV22 dc22 pm22 an22 cd22 ct22),sl22⟩) (c22:PySem.W.codeIn K cd22 "_law_number"=true) (k22:PySem.W.keepIn K (.ref f22)=true)
    (a23:PySem.W.nsIn K mainGlobals "_law_product"=some (some (.ref f23))) (l23:K.lookup f23=some ⟨oc23,od23,.func (PySem.W.fnOf "_law_product" "_law_product" (yaj zaD) (zai zaD) (zac zaD) .none kV23 dc23 pm23 an23 cd23 ct23),sl23⟩) (c23:PySem.W.codeIn K cd23 "_law_product"=true) (k23:PySem.W.keepIn K (.ref f23)=true)
    (a24:PySem.W.nsIn K mainGlobals "_law_is_good"=some (some (.ref f24))) (l24:K.lookup f24=some ⟨oc24,od24,.func (PySem.W.fnOf "_law_is_good" "_law_is_good" (yaj zaw) (zai zaw) (zac zaw) .none kV24 dc24 pm24 an24 cd24 ct24),sl24⟩) (c24:PySem.W.codeIn K cd24 "_law_is_good"=true) (k24:PySem.W.keepIn K (.ref f24)=true)
    (a25:PySem.W.nsIn K mainGlobals "_law_field"=some (some (.ref f25))) (l25:K.lookup f25=some ⟨oc25,od25,.func (PySem.W.fnOf "_law_field" "_law_field" (yaj yaF) (zai yaF) (zac yaF) .none kV25 dc25 pm25 an25 cd25 ct25),sl25⟩) (c25:PySem.W.codeIn K cd25 "_law_field"=true) (k25:PySem.W.keepIn K (.ref f25)=true)
    (a26:PySem.W.nsIn K mainGlobals "_law_table"=some (some (.ref f26))) (l26:K.lookup f26=some ⟨oc26,od26,.func (PySem.W.fnOf "_law_table" "_law_table" (yaj yaG) (zai yaG) (zac yaG) .none kV26 dc26 pm26 an26 cd26 ct26),sl26⟩) (c26:PySem.W.codeIn K cd26 "_law_table"=true) (k26:PySem.W.keepIn K (.ref f26)=true)
    (a27:PySem.W.nsIn K mainGlobals "_law_times"=some (some (.ref f27))) (l27:K.lookup f27=some ⟨oc27,od27,.func (PySem.W.fnOf "_law_times" "_law_times" (yaj yaR) (zai yaR) (zac yaR) .none kV27 dc27 pm27 an27 cd27 ct27),sl27⟩) (c27:PySem.W.codeIn K cd27 "_law_times"=true) (k27:PySem.W.keepIn K (.ref f27)=true)
    (a28:PySem.W.nsIn K mainGlobals "_law_round"=some (some (.ref f28))) (l28:K.lookup f28=some ⟨oc28,od28,.func (PySem.W.fnOf "_law_round" "_law_round" (yaj zaS) (zai zaS) (zac zaS) .none kV28 dc28 pm28 an28 cd28 ct28),sl28⟩) (c28:PySem.W.codeIn K cd28 "_law_round"=true) (k28:PySem.W.keepIn K (.ref f28)=true)
    (a29:PySem.W.nsIn K mainGlobals "_law_ring"=some (some (.ref f29))) (l29:K.lookup f29=some ⟨oc29,od29,.func (PySem.W.fnOf "_law_ring" "_law_ring" (yaj zaV) (zai zaV) (zac zaV) .none kV29 dc29 pm29 an29 cd29 ct29),sl29⟩) (c29:PySem.W.codeIn K cd29 "_law_ring"=true) (k29:PySem.W.keepIn K (.ref f29)=true)
    (a30:PySem.W.nsIn K mainGlobals "_law_wheel"=some (some (.ref f30))) (l30:K.lookup f30=some ⟨oc30,od30,.func (PySem.W.fnOf "_law_wheel" "_law_wheel" (yaj yaq) (zai yaq) (zac yaq) .none kV30 dc30 pm30 an30 cd30 ct30),sl30⟩) (c30:PySem.W.codeIn K cd30 "_law_wheel"=true) (k30:PySem.W.keepIn K (.ref f30)=true)
    (a31:PySem.W.nsIn K mainGlobals "_law_roots"=some (some (.ref f31))) (l31:K.lookup f31=some ⟨oc31,od31,.func (PySem.W.fnOf "_law_roots" "_law_roots" (yaj zaQ) (zai zaQ) (zac zaQ) .none kV31 dc31 pm31 an31 cd31 ct31),sl31⟩) (c31:PySem.W.codeIn K cd31 "_law_roots"=true) (k31:PySem.W.keepIn K (.ref f31)=true)
    (a32:PySem.W.nsIn K mainGlobals "_law_common"=some (some (.ref f32))) (l32:K.lookup f32=some ⟨oc32,od32,.func (PySem.W.fnOf "_law_common" "_law_common" (yaj yaJ) (zai yaJ) (zac yaJ) .none kV32 dc32 pm32 an32 cd32 ct32),sl32⟩) (c32:PySem.W.codeIn K cd32 "_law_common"=true) (k32:PySem.W.keepIn K (.ref f32)=true)
    (a33:PySem.W.nsIn K mainGlobals "_law_run"=some (some (.ref f33))) (l33:K.lookup f33=some ⟨oc33,od33,.func (PySem.W.fnOf "_law_run" "_law_run" (yaj ya4) (zai ya4) (zac ya4) .none kV33 dc33 pm33 an33 cd33 ct33),sl33⟩) (c33:PySem.W.codeIn K cd33 "_law_run"=true) (k33:PySem.W.keepIn K (.ref f33)=true)
    (a34:PySem.W.nsIn K mainGlobals "_law_due"=some (some (.ref f34))) (l34:K.lookup f34=some ⟨oc34,od34,.func (PySem.W.fnOf "_law_due" "_law_due" (yaj zaJ) (zai zaJ) (zac zaJ) .none kV34 dc34 pm34 an34 cd34 ct34),sl34⟩) (c34:PySem.W.codeIn K cd34 "_law_due"=true) (k34:PySem.W.keepIn K (.ref f34)=true)
    (a35:PySem.W.nsIn K mainGlobals "_law_refused"=some (some (.ref f35))) (l35:K.lookup f35=some ⟨oc35,od35,.func (PySem.W.fnOf "_law_refused" "_law_refused" (yaj yaD) (zai yaD) (zac yaD) .none kV35 dc35 pm35 an35 cd35 ct35),sl35⟩) (c35:PySem.W.codeIn K cd35 "_law_refused"=true) (k35:PySem.W.keepIn K (.ref f35)=true)
    (a36:PySem.W.nsIn K mainGlobals "law"=some (some (.ref f36))) (l36:K.lookup f36=some ⟨oc36,od36,.func (PySem.W.fnOf "law" "law" (yaj ycN) (zai ycN) (zac ycN) .none kV36 dc36 pm36 an36 cd36 ct36),sl36⟩) (c36:PySem.W.codeIn K cd36 "law"=true) (k36:PySem.W.keepIn K (.ref f36)=true)
    {Re By Nr Tm Nt Nl:Addr} (x1:PySem.W.nsIn K mainGlobals "RoundError"=some (some (.ref Re))) (x2:PySem.W.nsIn K mainGlobals "ByNought"=some (some (.ref By))) (x3:PySem.W.nsIn K mainGlobals "NoRoot"=some (some (.ref Nr))) (x4:PySem.W.nsIn K mainGlobals "TooMany"=some (some (.ref Tm))) (x5:PySem.W.nsIn K mainGlobals "NoText"=some (some (.ref Nt))) (x6:PySem.W.nsIn K mainGlobals "NoLine"=some (some (.ref Nl))) (x7:PySem.W.nsIn K mainGlobals "ValueError"=some none) (x8:ycn K Re [By,Nr,Tm,Nt,Nl]=true)
    {tk_MOST_WIDE:Tok} (kk_MOST_WIDE:PySem.W.nsIn K mainGlobals "MOST_WIDE"=some (some (.int 15 tk_MOST_WIDE)))
    (xN:yci K [By,Nr,Tm,Nt,Nl]=true)
    (z1:PySem.W.nsIn K mainGlobals "range"=some none) (z2:PySem.W.nsIn K mainGlobals "len"=some none) (z3:PySem.W.nsIn K mainGlobals "abs"=some none) (z4:PySem.W.nsIn K mainGlobals "min"=some none) (z5:PySem.W.nsIn K mainGlobals "max"=some none) (z6:PySem.W.nsIn K mainGlobals "all"=some none) (z7:PySem.W.nsIn K mainGlobals "any"=some none) (z8:PySem.W.nsIn K mainGlobals "isinstance"=some none) (z9:PySem.W.nsIn K mainGlobals "int"=some none) (z10:PySem.W.nsIn K mainGlobals "bool"=some none) (z11:PySem.W.nsIn K mainGlobals "tuple"=some none) (z12:PySem.W.nsIn K mainGlobals "list"=some none) (z13:PySem.W.nsIn K mainGlobals "zip"=some none) (z14:PySem.W.nsIn K mainGlobals "enumerate"=some none) (z15:PySem.W.nsIn K mainGlobals "repr"=some none) (z16:PySem.W.nsIn K mainGlobals "dict"=some none) (z17:PySem.W.nsIn K mainGlobals "reversed"=some none) (z18:PySem.W.nsIn K mainGlobals "sorted"=some none) (z19:PySem.W.nsIn K mainGlobals "sum"=some none) (z20:PySem.W.nsIn K mainGlobals "set"=some none) (z21:PySem.W.nsIn K mainGlobals "str"=some none) :
    ∃fd:FuncData,(∀(s:Shared) (v:Value),BindsTo s fd ⟨[v],[]⟩ [("_law_script",v)])∧∀base:Heap,K.In base→base.Ns mainGlobals mg→FnOk l.prog w K mg base CX0 8 fa fd ["_law_script"] (zc0 K):=by
  have e:=hfa.symm.trans (PySem.W.mg_of X G a36)
  cases e
  have F1:=yap (st:=ya5) l1 c1 k1
  have F2:=yap (st:=yaO) l2 c2 k2
  have F3:=yap (st:=yaC) l3 c3 k3
  have F4:=yap (st:=yar) l4 c4 k4
  have F5:=yap (st:=zaA) l5 c5 k5
  have F6:=yap (st:=zcr) l6 c6 k6
  have F7:=yap (st:=yaI) l7 c7 k7
  have F8:=yap (st:=zbw) l8 c8 k8
  have F9:=yap (st:=ybM) l9 c9 k9
  have F10:=yap (st:=za5) l10 c10 k10
  have F11:=yap (st:=ybw) l11 c11 k11
  have F12:=yap (st:=yaS) l12 c12 k12
  have F13:=yap (st:=yaQ) l13 c13 k13
  have F14:=yap (st:=yaA) l14 c14 k14
  have F15:=yap (st:=zaP) l15 c15 k15
  have F16:=yap (st:=ya6) l16 c16 k16
  have F17:=yap (st:=zaG) l17 c17 k17
  have F18:=yap (st:=zaT) l18 c18 k18
  have F19:=yap (st:=yaV) l19 c19 k19
  have F20:=yap (st:=yaH) l20 c20 k20
  have F21:=yap (st:=zaK) l21 c21 k21
  have F22:=yap (st:=yaK) l22 c22 k22
  have F23:=yap (st:=zaD) l23 c23 k23
  have F24:=yap (st:=zaw) l24 c24 k24
  have F25:=yap (st:=yaF) l25 c25 k25
  have F26:=yap (st:=yaG) l26 c26 k26
  have F27:=yap (st:=yaR) l27 c27 k27
  have F28:=yap (st:=zaS) l28 c28 k28
  have F29:=yap (st:=zaV) l29 c29 k29
  have F30:=yap (st:=yaq) l30 c30 k30
  have F31:=yap (st:=zaQ) l31 c31 k31
  have F32:=yap (st:=yaJ) l32 c32 k32
  have F33:=yap (st:=ya4) l33 c33 k33
  have F34:=yap (st:=zaJ) l34 c34 k34
  have F35:=yap (st:=yaD) l35 c35 k35
  have F36:=yap (st:=ycN) l36 c36 k36
  have b1:=F1.binds (ps:=["thing"]) fun _ _ _ _ _ _ us hl=>match us,hl with | [_],_=>rfl
  have b2:=F2.binds (ps:=["thing","many"]) fun _ _ _ _ _ _ us hl=>match us,hl with | [_,_],_=>rfl
  have b3:=F3.binds (ps:=["base","many"]) fun _ _ _ _ _ _ us hl=>match us,hl with | [_,_],_=>rfl
  have b4:=F4.binds (ps:=["one","other"]) fun _ _ _ _ _ _ us hl=>match us,hl with | [_,_],_=>rfl
  have b5:=F5.binds (ps:=["n"]) fun _ _ _ _ _ _ us hl=>match us,hl with | [_],_=>rfl
  have b6:=F6.binds (ps:=["field","one","other"]) fun _ _ _ _ _ _ us hl=>match us,hl with | [_,_,_],_=>rfl
  have b7:=F7.binds (ps:=["field","digit","one"]) fun _ _ _ _ _ _ us hl=>match us,hl with | [_,_,_],_=>rfl
  have b8:=F8.binds (ps:=["field","one"]) fun _ _ _ _ _ _ us hl=>match us,hl with | [_,_],_=>rfl
  have b9:=F9.binds (ps:=["field","one","other"]) fun _ _ _ _ _ _ us hl=>match us,hl with | [_,_,_],_=>rfl
  have b10:=F10.binds (ps:=["field","one"]) fun _ _ _ _ _ _ us hl=>match us,hl with | [_,_],_=>rfl
  have b11:=F11.binds (ps:=["wheel"]) fun _ _ _ _ _ _ us hl=>match us,hl with | [_],_=>rfl
  have b12:=F12.binds (ps:=["marks","n","first","step"]) fun _ _ _ _ _ _ us hl=>match us,hl with | [_,_,_,_],_=>rfl
  have b13:=F13.binds (ps:=["runs","first","many","far"]) fun _ _ _ _ _ _ us hl=>match us,hl with | [_,_,_,_],_=>rfl
  have b14:=F14.binds (ps:=["marks","n","first","step"]) fun _ _ _ _ _ _ us hl=>match us,hl with | [_,_,_,_],_=>rfl
  have b15:=F15.binds (ps:=["wheel"]) fun _ _ _ _ _ _ us hl=>match us,hl with | [_],_=>rfl
  have b16:=F16.binds (ps:=["n","first","step"]) fun _ _ _ _ _ _ us hl=>match us,hl with | [_,_,_],_=>rfl
  have b17:=F17.binds (ps:=["wheel","thing"]) fun _ _ _ _ _ _ us hl=>match us,hl with | [_,_],_=>rfl
  have b18:=F18.binds (ps:=["_law_script"]) fun _ _ _ _ _ _ us hl=>match us,hl with | [_],_=>rfl
  have b19:=F19.binds (ps:=["_law_purse_here","_law_many"]) fun _ _ _ _ _ _ us hl=>match us,hl with | [_,_],_=>rfl
  have b20:=F20.binds (ps:=["_law_one","_law_many"]) fun _ _ _ _ _ _ us hl=>match us,hl with | [_,_],_=>rfl
  have b21:=F21.binds (ps:=["_law_field_here","_law_thing"]) fun _ _ _ _ _ _ us hl=>match us,hl with | [_,_],_=>rfl
  have b22:=F22.binds (ps:=["_law_field_here","_law_digits_here"]) fun _ _ _ _ _ _ us hl=>match us,hl with | [_,_],_=>rfl
  have b23:=F23.binds (ps:=["_law_field_here","_law_one","_law_other"]) fun _ _ _ _ _ _ us hl=>match us,hl with | [_,_,_],_=>rfl
  have b24:=F24.binds (ps:=["_law_field_here"]) fun _ _ _ _ _ _ us hl=>match us,hl with | [_],_=>rfl
  have b25:=F25.binds (ps:=["_law_purse_here"]) fun _ _ _ _ _ _ us hl=>match us,hl with | [_],_=>rfl
  have b26:=F26.binds (ps:=["_law_field_here"]) fun _ _ _ _ _ _ us hl=>match us,hl with | [_],_=>rfl
  have b27:=F27.binds (ps:=["_law_table_here","_law_one","_law_other"]) fun _ _ _ _ _ _ us hl=>match us,hl with | [_,_,_],_=>rfl
  have b28:=F28.binds (ps:=["_law_table_here","_law_one"]) fun _ _ _ _ _ _ us hl=>match us,hl with | [_,_],_=>rfl
  have b29:=F29.binds (ps:=["_law_i","_law_n","_law_q"]) fun _ _ _ _ _ _ us hl=>match us,hl with | [_,_,_],_=>rfl
  have b30:=F30.binds (ps:=["_law_purse_here","_law_most"]) fun _ _ _ _ _ _ us hl=>match us,hl with | [_,_],_=>rfl
  have b31:=F31.binds (ps:=["_law_table_here","_law_root"]) fun _ _ _ _ _ _ us hl=>match us,hl with | [_,_],_=>rfl
  have b32:=F32.binds (ps:=["_law_one","_law_other"]) fun _ _ _ _ _ _ us hl=>match us,hl with | [_,_],_=>rfl
  have b33:=F33.binds (ps:=["_law_marks","_law_n","_law_first","_law_step"]) fun _ _ _ _ _ _ us hl=>match us,hl with | [_,_,_,_],_=>rfl
  have b34:=F34.binds (ps:=["_law_marks","_law_n"]) fun _ _ _ _ _ _ us hl=>match us,hl with | [_,_],_=>rfl
  have b35:=F35.binds (ps:=["_law_wheel_here"]) fun _ _ _ _ _ _ us hl=>match us,hl with | [_],_=>rfl
  have B:Bl mg:=by
    intro x hx
    simp only [zfg,List.mem_cons,List.not_mem_nil,or_false] at hx
    rcases hx with rfl|rfl|rfl|rfl|rfl|rfl|rfl|rfl|rfl|rfl|rfl|rfl|rfl|rfl|rfl|rfl|rfl|rfl|rfl|rfl|rfl
    · exact PySem.W.mg_none_of X G z1
    · exact PySem.W.mg_none_of X G z2
    · exact PySem.W.mg_none_of X G z3
    · exact PySem.W.mg_none_of X G z4
    · exact PySem.W.mg_none_of X G z5
    · exact PySem.W.mg_none_of X G z6
    · exact PySem.W.mg_none_of X G z7
    · exact PySem.W.mg_none_of X G z8
    · exact PySem.W.mg_none_of X G z9
    · exact PySem.W.mg_none_of X G z10
    · exact PySem.W.mg_none_of X G z11
    · exact PySem.W.mg_none_of X G z12
    · exact PySem.W.mg_none_of X G z13
    · exact PySem.W.mg_none_of X G z14
    · exact PySem.W.mg_none_of X G z15
    · exact PySem.W.mg_none_of X G z16
    · exact PySem.W.mg_none_of X G z17
    · exact PySem.W.mg_none_of X G z18
    · exact PySem.W.mg_none_of X G z19
    · exact PySem.W.mg_none_of X G z20
    · exact PySem.W.mg_none_of X G z21
  have ER:Errs K mg Re By Nr Tm Nt Nl:=⟨PySem.W.mg_of X G x1,PySem.W.mg_of X G x2,PySem.W.mg_of X G x3,PySem.W.mg_of X G x4,PySem.W.mg_of X G x5,PySem.W.mg_of X G x6,PySem.W.mg_none_of X G x7,x8⟩
  have m_MOST_WIDE:=PySem.W.mg_of X G kk_MOST_WIDE
  have EN:=xN
  refine ⟨PySem.W.fnOf "law" "law" (yaj ycN) (zai ycN) (zac ycN) .none kV36 dc36 pm36 an36 cd36 ct36,fun s v=>.of_eq rfl,fun base _ _=>?_⟩
  have h_is_whole:Has l.prog w K mg base 1 "is_whole" ["thing"] _:=⟨f1,_,yf7 (P:=l.prog) (w:=w) (base:=base) B  F1,b1,k1,PySem.W.mg_of X G a1⟩
  have h_is_wholes:Has l.prog w K mg base 2 "is_wholes" ["thing","many"] _:=⟨f2,_,yeG (P:=l.prog) (w:=w) (base:=base) B h_is_whole F2,b2,k2,PySem.W.mg_of X G a2⟩
  have h_number_power:Has l.prog w K mg base 1 "number_power" ["base","many"] _:=⟨f3,_,yb4 (P:=l.prog) (w:=w) (base:=base) B  F3,b3,k3,PySem.W.mg_of X G a3⟩
  have h_greatest_common:Has l.prog w K mg base 1 "greatest_common" ["one","other"] _:=⟨f4,_,yf0 (P:=l.prog) (w:=w) (base:=base) B  F4,b4,k4,PySem.W.mg_of X G a4⟩
  have h_steps_round:Has l.prog w K mg base 2 "steps_round" ["n"] _:=⟨f5,_,ze9 (P:=l.prog) (w:=w) (base:=base) B h_greatest_common F5,b5,k5,PySem.W.mg_of X G a5⟩
  have h_plus:Has l.prog w K mg base 1 "plus" ["field","one","other"] _:=⟨f6,_,yfC (P:=l.prog) (w:=w) (base:=base) B  F6,b6,k6,PySem.W.mg_of X G a6⟩
  have h_digit_times:Has l.prog w K mg base 1 "digit_times" ["field","digit","one"] _:=⟨f7,_,zcg (P:=l.prog) (w:=w) (base:=base) B  F7,b7,k7,PySem.W.mg_of X G a7⟩
  have h_lifted:Has l.prog w K mg base 2 "lifted" ["field","one"] _:=⟨f8,_,zev (P:=l.prog) (w:=w) (base:=base) B h_plus h_digit_times h_number_power F8,b8,k8,PySem.W.mg_of X G a8⟩
  have h_times:Has l.prog w K mg base 3 "times" ["field","one","other"] _:=⟨f9,_,yeV (P:=l.prog) (w:=w) (base:=base) B h_plus h_digit_times h_lifted F9,b9,k9,PySem.W.mg_of X G a9⟩
  have h_round_of:Has l.prog w K mg base 4 "round_of" ["field","one"] _:=⟨f10,_,yeR (P:=l.prog) (w:=w) (base:=base) B h_times F10,b10,k10,PySem.W.mg_of X G a10⟩
  have h_length:Has l.prog w K mg base 5 "length" ["wheel"] _:=⟨f11,_,zec (P:=l.prog) (w:=w) (base:=base) B h_round_of F11,b11,k11,PySem.W.mg_of X G a11⟩
  have h_marked_run:Has l.prog w K mg base 1 "marked_run" ["marks","n","first","step"] _:=⟨f12,_,zf5 (P:=l.prog) (w:=w) (base:=base) B  F12,b12,k12,PySem.W.mg_of X G a12⟩
  have h_runs_again:Has l.prog w K mg base 1 "runs_again" ["runs","first","many","far"] _:=⟨f13,_,zfW (P:=l.prog) (w:=w) (base:=base) B  F13,b13,k13,PySem.W.mg_of X G a13⟩
  have h_wide_papers:Has l.prog w K mg base 2 "wide_papers" ["marks","n","first","step"] _:=⟨f14,_,ygj (P:=l.prog) (w:=w) (base:=base) B h_marked_run h_greatest_common h_runs_again F14,b14,k14,PySem.W.mg_of X G a14⟩
  have h_best_wide:Has l.prog w K mg base 6 "best_wide" ["wheel"] _:=⟨f15,_,zgc (P:=l.prog) (w:=w) (base:=base) m_MOST_WIDE B h_length h_steps_round h_wide_papers F15,b15,k15,PySem.W.mg_of X G a15⟩
  have h_best_wideX:HasX l.prog w K mg base 6 "best_wide" ["wheel"] _:=⟨f15,_,yfO (P:=l.prog) (w:=w) (base:=base) m_MOST_WIDE B ER h_length h_steps_round h_wide_papers F15,b15,k15,PySem.W.mg_of X G a15⟩
  have h_is_start:Has l.prog w K mg base 2 "is_start" ["n","first","step"] _:=⟨f16,_,zeT (P:=l.prog) (w:=w) (base:=base) B h_greatest_common F16,b16,k16,PySem.W.mg_of X G a16⟩
  have h_shows_wide:Has l.prog w K mg base 6 "shows_wide" ["wheel","thing"] _:=⟨f17,_,zd8 (P:=l.prog) (w:=w) (base:=base) B h_is_wholes h_length h_is_start h_greatest_common F17,b17,k17,PySem.W.mg_of X G a17⟩
  have h__law_purse:Has l.prog w K mg base 1 "_law_purse" ["_law_script"] _:=⟨f18,_,zeR (P:=l.prog) (w:=w) (base:=base) B  F18,b18,k18,PySem.W.mg_of X G a18⟩
  have h__law_pick:Has l.prog w K mg base 1 "_law_pick" ["_law_purse_here","_law_many"] _:=⟨f19,_,yfx (P:=l.prog) (w:=w) (base:=base) B  F19,b19,k19,PySem.W.mg_of X G a19⟩
  have h__law_raised:Has l.prog w K mg base 1 "_law_raised" ["_law_one","_law_many"] _:=⟨f20,_,yeu (P:=l.prog) (w:=w) (base:=base) B  F20,b20,k20,PySem.W.mg_of X G a20⟩
  have h__law_digits:Has l.prog w K mg base 1 "_law_digits" ["_law_field_here","_law_thing"] _:=⟨f21,_,yex (P:=l.prog) (w:=w) (base:=base) B  F21,b21,k21,PySem.W.mg_of X G a21⟩
  have h__law_number:Has l.prog w K mg base 1 "_law_number" ["_law_field_here","_law_digits_here"] _:=⟨f22,_,yd5 (P:=l.prog) (w:=w) (base:=base) B  F22,b22,k22,PySem.W.mg_of X G a22⟩
  have h__law_product:Has l.prog w K mg base 2 "_law_product" ["_law_field_here","_law_one","_law_other"] _:=⟨f23,_,yd1 (P:=l.prog) (w:=w) (base:=base) B h__law_digits h__law_number F23,b23,k23,PySem.W.mg_of X G a23⟩
  have h__law_is_good:Has l.prog w K mg base 3 "_law_is_good" ["_law_field_here"] _:=⟨f24,_,zfv (P:=l.prog) (w:=w) (base:=base) B h__law_raised h__law_product F24,b24,k24,PySem.W.mg_of X G a24⟩
  have h__law_field:Has l.prog w K mg base 4 "_law_field" ["_law_purse_here"] _:=⟨f25,_,ze0 (P:=l.prog) (w:=w) (base:=base) B h__law_pick h__law_raised h__law_is_good F25,b25,k25,PySem.W.mg_of X G a25⟩
  have h__law_table:Has l.prog w K mg base 3 "_law_table" ["_law_field_here"] _:=⟨f26,_,ye9 (P:=l.prog) (w:=w) (base:=base) B h__law_raised h__law_product F26,b26,k26,PySem.W.mg_of X G a26⟩
  have h__law_times:Has l.prog w K mg base 1 "_law_times" ["_law_table_here","_law_one","_law_other"] _:=⟨f27,_,zem (P:=l.prog) (w:=w) (base:=base) B  F27,b27,k27,PySem.W.mg_of X G a27⟩
  have h__law_round:Has l.prog w K mg base 2 "_law_round" ["_law_table_here","_law_one"] _:=⟨f28,_,yeA (P:=l.prog) (w:=w) (base:=base) B h__law_times F28,b28,k28,PySem.W.mg_of X G a28⟩
  have h__law_ring:Has l.prog w K mg base 1 "_law_ring" ["_law_i","_law_n","_law_q"] _:=⟨f29,_,zeP (P:=l.prog) (w:=w) (base:=base) B  F29,b29,k29,PySem.W.mg_of X G a29⟩
  have h__law_wheel:Has l.prog w K mg base 5 "_law_wheel" ["_law_purse_here","_law_most"] _:=⟨f30,_,zeq (P:=l.prog) (w:=w) (base:=base) B h__law_pick h__law_field h__law_table h__law_raised h__law_round h__law_ring F30,b30,k30,PySem.W.mg_of X G a30⟩
  have h__law_roots:Has l.prog w K mg base 2 "_law_roots" ["_law_table_here","_law_root"] _:=⟨f31,_,zeA (P:=l.prog) (w:=w) (base:=base) B h__law_times F31,b31,k31,PySem.W.mg_of X G a31⟩
  have h__law_common:Has l.prog w K mg base 1 "_law_common" ["_law_one","_law_other"] _:=⟨f32,_,zfD (P:=l.prog) (w:=w) (base:=base) B  F32,b32,k32,PySem.W.mg_of X G a32⟩
  have h__law_run:Has l.prog w K mg base 1 "_law_run" ["_law_marks","_law_n","_law_first","_law_step"] _:=⟨f33,_,yfw (P:=l.prog) (w:=w) (base:=base) B  F33,b33,k33,PySem.W.mg_of X G a33⟩
  have h__law_due:Has l.prog w K mg base 2 "_law_due" ["_law_marks","_law_n"] _:=⟨f34,_,yfQ (P:=l.prog) (w:=w) (base:=base) B h__law_common h__law_run F34,b34,k34,PySem.W.mg_of X G a34⟩
  have h__law_refused:Has l.prog w K mg base 7 "_law_refused" ["_law_wheel_here"] _:=⟨f35,_,yf8 (P:=l.prog) (w:=w) (base:=base) EN B ER h_best_wideX F35,b35,k35,PySem.W.mg_of X G a35⟩
  exact yfW (P:=l.prog) (w:=w) (base:=base) B h__law_purse h__law_pick h__law_wheel h__law_roots h__law_due h_best_wide h_shows_wide h__law_refused F36
theorem walk {l:PySem.W.OpenLaw} {q:Program} {loose:List Str} {XP:(Str→Option Value)→Heap→Prop} {YP:World→Heap→Prop} {d:DefRec} {K:Params→PySem.W.Frag} (hn:l.most=some 63) (hdf:d.params.defaults=[])
    (hY:∀(w:World) (h:Heap),YP w h→(K w.params).In h)
    (F:∀(w:World) (mg:Str→Option Value) (fa:Addr) (h:Heap),(K w.params).In h→h.Ns mainGlobals mg→mg d.name=some (.ref fa)→
      ∃fd:FuncData,(∀(s:Shared) (u:Value),BindsTo s fd ⟨[u],[]⟩ [("_law_script",u)])∧∀base:Heap,(K w.params).In base→base.Ns mainGlobals mg→FnOk l.prog w (K w.params) mg base CX0 8 fa fd ["_law_script"] (zc0 (K w.params))) :
    PySem.W.WalkO q loose XP YP l.row.toRowW d [] (fun f vs=>PySem.call f vs) :=
  L2.walk_of (n:=63) (k:=8) (x:="_law_script") (CX:=fun _=>CX0) (sp:=fun w=>zc0 (K w.params)) hn (by decide) hdf ⟨rfl,by decide,by decide,rfl⟩ hY F (fun _ _ a ns hl _ hS=>ye8 hl hS) fun _ _ _ _ _ z=>z
end My
theorem PySem.W.Fast.tw1281900660887229088 : True := trivial
theorem PySem.W.Fast.tw14196402630667160741 : True := trivial
theorem PySem.W.Fast.tw10538635362380363282 : True := trivial
theorem PySem.W.Fast.tw10685760342259007800 : True := trivial
theorem PySem.W.Fast.tw15063627428467034772 : True := trivial
theorem PySem.W.Fast.tw2741761971814639673 : True := trivial
theorem PySem.W.Fast.tw4859358238943613393 : True := trivial
theorem PySem.W.Fast.tw12034612368259073858 : True := trivial
theorem PySem.W.Fast.tw10584707193229548987 : True := trivial
theorem PySem.W.Fast.tw17058984923393910260 : True := trivial
theorem PySem.W.Fast.tw241250541429465000 : True := trivial
theorem PySem.W.Fast.tw2909026172420424627 : True := trivial
theorem PySem.W.Fast.tw13880824703101660090 : True := trivial
theorem PySem.W.Fast.tw9877197993929794424 : True := trivial
theorem PySem.W.Fast.tw9196566654343551299 : True := trivial
theorem PySem.W.Fast.tw17335767114011191432 : True := trivial
theorem PySem.W.Fast.tw9669394600158104665 : True := trivial
theorem PySem.W.Fast.tw4879883829159212388 : True := trivial
theorem PySem.W.Fast.tw9544991270667279201 : True := trivial
theorem PySem.W.Fast.tw11909875298678182577 : True := trivial
theorem PySem.W.Fast.tw284891767767839791 : True := trivial
theorem PySem.W.Fast.tw10776741954427674537 : True := trivial
theorem PySem.W.Fast.tw6402092950512332268 : True := trivial
theorem PySem.W.Fast.tw7694443723635298048 : True := trivial
theorem PySem.W.Fast.tw3349010585911816766 : True := trivial
theorem PySem.W.Fast.tw15247175454916822224 : True := trivial
theorem PySem.W.Fast.tw2461029974936623721 : True := trivial
theorem PySem.W.Fast.tw18034967514780790446 : True := trivial
theorem PySem.W.Fast.tw5613085657520930372 : True := trivial
theorem PySem.W.Fast.tw11821439150998950735 : True := trivial
theorem PySem.W.Fast.tw12186623284135230866 : True := trivial
theorem PySem.W.Fast.tw5935461550689241966 : True := trivial
theorem PySem.W.Fast.tw17262093147588220215 : True := trivial
theorem PySem.W.Fast.tw7930384959085565802 : True := trivial
theorem PySem.W.Fast.tw16497543508668873945 : True := trivial
theorem PySem.W.Fast.tw11263089690118789791 : True := trivial
theorem PySem.W.Fast.tw18219324916808551858 : True := trivial
theorem PySem.W.Fast.tw3910890076469574285 : True := trivial
theorem PySem.W.Fast.tw1869964713972578578 : True := trivial
theorem PySem.W.Fast.tw4393678659157433779 : True := trivial
theorem PySem.W.Fast.tw1066042975756759533 : True := trivial
theorem PySem.W.Fast.tw16050845650698576399 : True := trivial
theorem PySem.W.Fast.tw10811305999353294684 : True := trivial
theorem PySem.W.Fast.tw8797001619149663141 : True := trivial
theorem PySem.W.Fast.tw13866820531215695639 : True := trivial
theorem PySem.W.Fast.tw6567873223889740004 : True := trivial
theorem PySem.W.Fast.tw18441647015905478040 : True := trivial
theorem PySem.W.Fast.tw2033754023622826715 : True := trivial
theorem PySem.W.Fast.tw7021608728486658844 : True := trivial
theorem PySem.W.Fast.tw13914203004126954136 : True := trivial
theorem PySem.W.Fast.tw11685132579964726060 : True := trivial
theorem PySem.W.Fast.tw5939016309213384165 : True := trivial
theorem PySem.W.Fast.tw11095644578023150203 : True := trivial
theorem PySem.W.Fast.tw16019039090535571648 : True := trivial
theorem PySem.W.Fast.tw5267354644370961137 : True := trivial
theorem PySem.W.Fast.tw749326183727996193 : True := trivial
theorem PySem.W.Fast.tw12647261373969700460 : True := trivial
theorem PySem.W.Fast.tw11787729361872144965 : True := trivial
theorem PySem.W.Fast.tw1797694621010202972 : True := trivial
theorem PySem.W.Fast.tw6348637176766011500 : True := trivial
theorem PySem.W.Fast.tw14464501693383773676 : True := trivial
theorem PySem.W.Fast.tw12897686126447887381 : True := trivial
theorem PySem.W.Fast.tw15920928951428315865 : True := trivial
theorem PySem.W.Fast.tw17560933839980909738 : True := trivial
theorem PySem.W.Fast.tw16973016397749920390 : True := trivial
theorem PySem.W.Fast.tw14805123780995008180 : True := trivial
theorem PySem.W.Fast.tw15389135648051448930 : True := trivial
theorem PySem.W.Fast.tw11769792598423126715 : True := trivial
theorem PySem.W.Fast.tw7986118422068055449 : True := trivial
theorem PySem.W.Fast.tw3987195594832590335 : True := trivial
theorem PySem.W.Fast.tw14730750665239115645 : True := trivial
theorem PySem.W.Fast.tw17673946767200805491 : True := trivial
theorem PySem.W.Fast.tw3992971992971851545 : True := trivial
theorem PySem.W.Fast.tw2951368226201814743 : True := trivial
theorem PySem.W.Fast.tw3849436390594304324 : True := trivial
theorem PySem.W.Fast.tw8634159028419073261 : True := trivial
theorem PySem.W.Fast.tw4748052869025503961 : True := trivial
theorem PySem.W.Fast.tw10301961972097786930 : True := trivial
theorem PySem.W.Fast.tw8107652227368369602 : True := trivial
theorem PySem.W.Fast.tw12648293499779115655 : True := trivial
theorem PySem.W.Fast.tw11144166147458326509 : True := trivial
theorem PySem.W.Fast.tw12408290736588797864 : True := trivial
theorem PySem.W.Fast.tw1622549851465070026 : True := trivial
theorem PySem.W.Fast.tw12268301121094036004 : True := trivial
theorem PySem.W.Fast.tw1852651177848619244 : True := trivial
theorem PySem.W.Fast.tw8830427546892225749 : True := trivial
theorem PySem.W.Fast.tw8359217610440925520 : True := trivial
theorem PySem.W.Fast.tw14691371223966766850 : True := trivial
theorem PySem.W.Fast.tw5589277666702443101 : True := trivial
theorem PySem.W.Fast.tw7762554688791168180 : True := trivial
theorem PySem.W.Fast.tw17628004767180950008 : True := trivial
theorem PySem.W.Fast.tw9807883004187506091 : True := trivial
theorem PySem.W.Fast.tw14129173323219890232 : True := trivial
theorem PySem.W.Fast.tw12688539683359106162 : True := trivial
theorem PySem.W.Fast.tw5648198912793717377 : True := trivial
theorem PySem.W.Fast.tw10580804516765323180 : True := trivial
theorem PySem.W.Fast.tw8958091647870833126 : True := trivial
theorem PySem.W.Fast.tw5440775565592809548 : True := trivial
theorem PySem.W.Fast.tw14309130772332339901 : True := trivial
theorem PySem.W.Fast.tw13255388651197921429 : True := trivial
theorem PySem.W.Fast.tw3875513852988368844 : True := trivial
theorem PySem.W.Fast.tw2794452843806376962 : True := trivial
theorem PySem.W.Fast.tw2836609165989876111 : True := trivial
theorem PySem.W.Fast.tw6467850800353823041 : True := trivial
theorem PySem.W.Fast.tw13118081322409040301 : True := trivial
theorem PySem.W.Fast.tw5246009327168477278 : True := trivial
theorem PySem.W.Fast.tw4247965343394278109 : True := trivial
theorem PySem.W.Fast.tw4682037272598148702 : True := trivial
theorem PySem.W.Fast.tw12762879092563741256 : True := trivial
theorem PySem.W.Fast.tw3138338872045983669 : True := trivial
theorem PySem.W.Fast.tw5663826325464308854 : True := trivial
theorem PySem.W.Fast.tw4975909658893474201 : True := trivial
theorem PySem.W.Fast.tw17695982281460634600 : True := trivial
theorem PySem.W.Fast.tw8342665843804009011 : True := trivial
theorem PySem.W.Fast.tw4790955683682851063 : True := trivial
theorem PySem.W.Fast.tw6178658090167136938 : True := trivial
theorem PySem.W.Fast.tw2633697638585515863 : True := trivial
theorem PySem.W.Fast.tw2835620492704770419 : True := trivial
theorem PySem.W.Fast.tw3011503783096041222 : True := trivial
theorem PySem.W.Fast.tw314688928162275584 : True := trivial
theorem PySem.W.Fast.tw3312714811506987098 : True := trivial
theorem PySem.W.Fast.tw10351924038489209024 : True := trivial
theorem PySem.W.Fast.tw7769745132684734413 : True := trivial
theorem PySem.W.Fast.tw11707243434816543073 : True := trivial
theorem PySem.W.Fast.tw10656951751287751645 : True := trivial
theorem PySem.W.Fast.tw6213772007876249371 : True := trivial
theorem PySem.W.Fast.tw2314284074117828508 : True := trivial
theorem PySem.W.Fast.tw10817314798576885870 : True := trivial
theorem PySem.W.Fast.tw5728865849342531947 : True := trivial
theorem PySem.W.Fast.tw7308520173370294497 : True := trivial
theorem PySem.W.Fast.tw5148961674862542445 : True := trivial
theorem PySem.W.Fast.tw2853168200475113385 : True := trivial
theorem PySem.W.Fast.tw14255497924558729601 : True := trivial
theorem PySem.W.Fast.tw7691871902575197754 : True := trivial
theorem PySem.W.Fast.tw3129074780795281894 : True := trivial
theorem PySem.W.Fast.tw4732153898796949437 : True := trivial
theorem PySem.W.Fast.tw16851508637678746791 : True := trivial
theorem PySem.W.Fast.tw13453448369995009742 : True := trivial
theorem PySem.W.Fast.tw6232254442413979300 : True := trivial
theorem PySem.W.Fast.tw14521179623655832140 : True := trivial
theorem PySem.W.Fast.tw16939430478984107564 : True := trivial
theorem PySem.W.Fast.tw7541827613306281215 : True := trivial
theorem PySem.W.Fast.tw13639890776908872878 : True := trivial
theorem PySem.W.Fast.tw827842060703217095 : True := trivial
theorem PySem.W.Fast.tw13682565752635365360 : True := trivial
theorem PySem.W.Fast.tw16849830141279749492 : True := trivial
theorem PySem.W.Fast.tw9758806412558059941 : True := trivial
theorem PySem.W.Fast.tw12383463300624778420 : True := trivial
theorem PySem.W.Fast.tw17593033847787148198 : True := trivial
theorem PySem.W.Fast.tw2844525397186040057 : True := trivial
theorem PySem.W.Fast.tw9548640586984935719 : True := trivial
theorem PySem.W.Fast.tw18295629676977755988 : True := trivial
theorem PySem.W.Fast.tw2849357254118591127 : True := trivial
theorem PySem.W.Fast.tw2481876938955899569 : True := trivial
theorem PySem.W.Fast.tw1001940579305033361 : True := trivial
theorem PySem.W.Fast.tw15835486744585395111 : True := trivial
theorem PySem.W.Fast.tw5723617045562811212 : True := trivial
theorem PySem.W.Fast.tw1790794583096071034 : True := trivial
theorem PySem.W.Fast.tw11776810957658494539 : True := trivial
theorem PySem.W.Fast.tw5543845902354204748 : True := trivial
theorem PySem.W.Fast.tw7549214896921333871 : True := trivial
theorem PySem.W.Fast.tw17231427240685068990 : True := trivial
theorem PySem.W.Fast.tw10131390864676743386 : True := trivial
theorem PySem.W.Fast.tw2440657307216691007 : True := trivial
theorem PySem.W.Fast.tw1863720761630633892 : True := trivial
theorem PySem.W.Fast.tw12836961407219772344 : True := trivial
theorem PySem.W.Fast.tw8137176949372469733 : True := trivial
theorem PySem.W.Fast.tw10060313798750570699 : True := trivial
theorem PySem.W.Fast.tw9102849049732335590 : True := trivial
theorem PySem.W.Fast.tw12558440231335816679 : True := trivial
theorem PySem.W.Fast.tw10402768442760515377 : True := trivial
theorem PySem.W.Fast.tw17831209225312105661 : True := trivial
theorem PySem.W.Fast.tw34620047511142413 : True := trivial
theorem PySem.W.Fast.tw2388508361267032850 : True := trivial
theorem PySem.W.Fast.tw566127698141713424 : True := trivial
theorem PySem.W.Fast.tw8915826395073152947 : True := trivial
theorem PySem.W.Fast.tw12809262141384559377 : True := trivial
theorem PySem.W.Fast.tw3900921239656882250 : True := trivial
theorem PySem.W.Fast.tw6943726737838541480 : True := trivial
theorem PySem.W.Fast.tw3278053476374077281 : True := trivial
theorem PySem.W.Fast.tw3448207573229760613 : True := trivial
theorem PySem.W.Fast.tw17912293115690296676 : True := trivial
theorem PySem.W.Fast.tw9546543972752999247 : True := trivial
theorem PySem.W.Fast.tw4510342960896949513 : True := trivial
theorem PySem.W.Fast.tw17137564702677192304 : True := trivial
theorem PySem.W.Fast.tw750079059636326359 : True := trivial
theorem PySem.W.Fast.tw11349737738553293939 : True := trivial
theorem PySem.W.Fast.tw1645724112200421328 : True := trivial
theorem PySem.W.Fast.tw3746105515833797650 : True := trivial
theorem PySem.W.Fast.tw14252941829915845900 : True := trivial
theorem PySem.W.Fast.tw17907067839426427031 : True := trivial
theorem PySem.W.Fast.tw9915411674216213139 : True := trivial
theorem PySem.W.Fast.tw16837489604501728562 : True := trivial
theorem PySem.W.Fast.tw13066093195298486737 : True := trivial
theorem PySem.W.Fast.tw7591136254114355545 : True := trivial
theorem PySem.W.Fast.tw6236970544099850142 : True := trivial
theorem PySem.W.Fast.tw13589107634397679868 : True := trivial
theorem PySem.W.Fast.tw6577141379075212549 : True := trivial
theorem PySem.W.Fast.tw11691761163168977374 : True := trivial
theorem PySem.W.Fast.tw12942440845600106238 : True := trivial
theorem PySem.W.Fast.tw17049155583994316846 : True := trivial
theorem PySem.W.Fast.tw1946876369339572524 : True := trivial
theorem PySem.W.Fast.tw6743410961499067434 : True := trivial
theorem PySem.W.Fast.tw11314862889055244787 : True := trivial
theorem PySem.W.Fast.tw16863411331646763957 : True := trivial
theorem PySem.W.Fast.tw7557730583178137550 : True := trivial
theorem PySem.W.Fast.tw4624228426219862253 : True := trivial
theorem PySem.W.Fast.tw1201162315635397583 : True := trivial
theorem PySem.W.Fast.tw9978832381629573838 : True := trivial
theorem PySem.W.Fast.tw7228873235854405033 : True := trivial
theorem PySem.W.Fast.tw6870236488835990893 : True := trivial
theorem PySem.W.Fast.tw17916861741752146762 : True := trivial
theorem PySem.W.Fast.tw16954362565453306667 : True := trivial
theorem PySem.W.Fast.tw6356088216062424804 : True := trivial
theorem PySem.W.Fast.tw4503578094052916571 : True := trivial
theorem PySem.W.Fast.tw14921210512958232241 : True := trivial
theorem PySem.W.Fast.tw8315720354916204352 : True := trivial
theorem PySem.W.Fast.tw9195253065028264710 : True := trivial
theorem PySem.W.Fast.tw5515904760545405601 : True := trivial
theorem PySem.W.Fast.tw11693102094324226733 : True := trivial
theorem PySem.W.Fast.tw7411026332151412524 : True := trivial
theorem PySem.W.Fast.tw1604226743444341561 : True := trivial
theorem PySem.W.Fast.tw10389681431698680397 : True := trivial
theorem PySem.W.Fast.tw17690583543605590967 : True := trivial
theorem PySem.W.Fast.tw13260944355101948711 : True := trivial
theorem PySem.W.Fast.tw7640411530031144491 : True := trivial
theorem PySem.W.Fast.tw13166264151507890025 : True := trivial
theorem PySem.W.Fast.tw8298491477879055398 : True := trivial
theorem PySem.W.Fast.tw17956708505617802245 : True := trivial
theorem PySem.W.Fast.tw14383396945074244050 : True := trivial
theorem PySem.W.Fast.tw17972623854658330739 : True := trivial
theorem PySem.W.Fast.tw8278687868672438974 : True := trivial
theorem PySem.W.Fast.tw13828574293015736402 : True := trivial
theorem PySem.W.Fast.tw12788178341074831948 : True := trivial
theorem PySem.W.Fast.tw12787896151044805429 : True := trivial
theorem PySem.W.Fast.tw11603126616063442055 : True := trivial
theorem PySem.W.Fast.tw13068285403838088354 : True := trivial
theorem PySem.W.Fast.tw8130095764129170349 : True := trivial
theorem PySem.W.Fast.tw7991267278884847617 : True := trivial
theorem PySem.W.Fast.tw6518567855053259202 : True := trivial
theorem PySem.W.Fast.tw1689830688523065935 : True := trivial
theorem PySem.W.Fast.tw4192124690871107909 : True := trivial
theorem PySem.W.Fast.tw17070425450832721082 : True := trivial
theorem PySem.W.Fast.tw4213721825673794140 : True := trivial
theorem PySem.W.Fast.tw16447125592203245635 : True := trivial
theorem PySem.W.Fast.tw1862024177267002195 : True := trivial
theorem PySem.W.Fast.tw2756821157853434518 : True := trivial
theorem PySem.W.Fast.tw4144430106096142166 : True := trivial
theorem PySem.W.Fast.tw10129610143820159393 : True := trivial
theorem PySem.W.Fast.tw2617123690432621681 : True := trivial
theorem PySem.W.Fast.tw10461442026318284571 : True := trivial
theorem PySem.W.Fast.tw9732712343343964796 : True := trivial
theorem PySem.W.Fast.tw17218668622201762580 : True := trivial
theorem PySem.W.Fast.tw17742587043287717708 : True := trivial
theorem PySem.W.Fast.tw7071077511974995577 : True := trivial
theorem PySem.W.Fast.tw7609757319682659480 : True := trivial
theorem PySem.W.Fast.tw5082085709428133176 : True := trivial
theorem PySem.W.Fast.tw17965264355239668024 : True := trivial
theorem PySem.W.Fast.tw10969956040114853346 : True := trivial
theorem PySem.W.Fast.tw702576664312088670 : True := trivial
theorem PySem.W.Fast.tw2726496141221867309 : True := trivial
theorem PySem.W.Fast.tw3319663519976393600 : True := trivial
theorem PySem.W.Fast.tw6893313848913160436 : True := trivial
theorem PySem.W.Fast.tw12145985420066909992 : True := trivial
theorem PySem.W.Fast.tw12865512567057546142 : True := trivial
theorem PySem.W.Fast.tw9356841140434349943 : True := trivial
theorem PySem.W.Fast.tw14191203374180660927 : True := trivial
theorem PySem.W.Fast.tw16781661131469242545 : True := trivial
theorem PySem.W.Fast.tw391008532472009982 : True := trivial
theorem PySem.W.Fast.tw1117824291291097403 : True := trivial
theorem PySem.W.Fast.tw6811731554882368338 : True := trivial
theorem PySem.W.Fast.tw6900094160972954360 : True := trivial
theorem PySem.W.Fast.tw18101846339686971445 : True := trivial
theorem PySem.W.Fast.tw7326929966190271534 : True := trivial
theorem PySem.W.Fast.tw15980138234854401624 : True := trivial
theorem PySem.W.Fast.tw15482071122549489797 : True := trivial
theorem PySem.W.Fast.tw14600941744268128614 : True := trivial
theorem PySem.W.Fast.tw6901804382503200584 : True := trivial
theorem PySem.W.Fast.tw7900454248458877266 : True := trivial
theorem PySem.W.Fast.tw2791194237757613379 : True := trivial
theorem PySem.W.Fast.tw17688491452936180946 : True := trivial
theorem PySem.W.Fast.tw4326317337747355014 : True := trivial
theorem PySem.W.Fast.tw1376026259695180779 : True := trivial
theorem PySem.W.Fast.tw608881935820100556 : True := trivial
theorem PySem.W.Fast.tw16362583971726161460 : True := trivial
theorem PySem.W.Fast.tw7205607836220573109 : True := trivial
theorem PySem.W.Fast.tw7945703589894590095 : True := trivial
theorem PySem.W.Fast.tw1784337858371867462 : True := trivial
theorem PySem.W.Fast.tw11270817832786951013 : True := trivial
theorem PySem.W.Fast.tw12370645562982336299 : True := trivial
theorem PySem.W.Fast.tw17350390264746605551 : True := trivial
theorem PySem.W.Fast.tw6872906344106420220 : True := trivial
theorem PySem.W.Fast.tw12832212614451242847 : True := trivial
theorem PySem.W.Fast.tw11601998153682760743 : True := trivial
theorem PySem.W.Fast.tw4654856771220343495 : True := trivial
theorem PySem.W.Fast.tw11990303607578043434 : True := trivial
theorem PySem.W.Fast.tw11642891924899359051 : True := trivial
theorem PySem.W.Fast.tw5334514073220998519 : True := trivial
theorem PySem.W.Fast.tw2638485843025233655 : True := trivial
theorem PySem.W.Fast.tw4581394651952339267 : True := trivial
theorem PySem.W.Fast.tw16050907180333439832 : True := trivial
theorem PySem.W.Fast.tw4795091476519824759 : True := trivial
theorem PySem.W.Fast.tw1251522153786363692 : True := trivial
theorem PySem.W.Fast.tw10296836127225337522 : True := trivial
theorem PySem.W.Fast.tw17519669471544619096 : True := trivial
theorem PySem.W.Fast.tw15106537581262710178 : True := trivial
theorem PySem.W.Fast.tw9791744174577272925 : True := trivial
theorem PySem.W.Fast.tw17828498034214446027 : True := trivial
open PySem PySem.W PyProof.Rows
set_option maxRecDepth 100000 in
set_option maxHeartbeats 0 in
theorem PySem.Challenge.cw_roundwords_k26_best_wide_papers_holds : PySem.Challenge.rw_roundwords_k26_best_wide_papers.Holds := by
  w_on;refine holds_law (by decide +kernel) fun said=>?_;k_head;(case hw=>w_witness2)
  k_fill
  refine My.walk (l:=PySem.Challenge.rw_roundwords_k26_best_wide_papers) rfl rfl (fun w h Y=>PySem.W.kIn_of Y) ?F
  case F =>
    intro w mg fa h KX G hmg
    refine' My.all_mk KX G hmg ?a1 ?l1 ?c1 ?k1 ?a2 ?l2 ?c2 ?k2 ?a3 ?l3 ?c3 ?k3 ?a4 ?l4 ?c4 ?k4 ?a5 ?l5 ?c5 ?k5 ?a6 ?l6 ?c6 ?k6 ?a7 ?l7 ?c7 ?k7 ?a8 ?l8 ?c8 ?k8 ?a9 ?l9 ?c9 ?k9 ?a10 ?l10 ?c10 ?k10 ?a11 ?l11 ?c11 ?k11 ?a12 ?l12 ?c12 ?k12 ?a13 ?l13 ?c13 ?k13 ?a14 ?l14 ?c14 ?k14 ?a15 ?l15 ?c15 ?k15 ?a16 ?l16 ?c16 ?k16 ?a17 ?l17 ?c17 ?k17 ?a18 ?l18 ?c18 ?k18 ?a19 ?l19 ?c19 ?k19 ?a20 ?l20 ?c20 ?k20 ?a21 ?l21 ?c21 ?k21 ?a22 ?l22 ?c22 ?k22 ?a23 ?l23 ?c23 ?k23 ?a24 ?l24 ?c24 ?k24 ?a25 ?l25 ?c25 ?k25 ?a26 ?l26 ?c26 ?k26 ?a27 ?l27 ?c27 ?k27 ?a28 ?l28 ?c28 ?k28 ?a29 ?l29 ?c29 ?k29 ?a30 ?l30 ?c30 ?k30 ?a31 ?l31 ?c31 ?k31 ?a32 ?l32 ?c32 ?k32 ?a33 ?l33 ?c33 ?k33 ?a34 ?l34 ?c34 ?k34 ?a35 ?l35 ?c35 ?k35 ?a36 ?l36 ?c36 ?k36 ?x1 ?x2 ?x3 ?x4 ?x5 ?x6 ?x7 ?x8 ?kk_MOST_WIDE ?xN ?z1 ?z2 ?z3 ?z4 ?z5 ?z6 ?z7 ?z8 ?z9 ?z10 ?z11 ?z12 ?z13 ?z14 ?z15 ?z16 ?z17 ?z18 ?z19 ?z20 ?z21
    (case a1=>k_is);(case l1=>k_is);(case c1=>k_is);(case k1=>k_is)
    (case a2=>k_is);(case l2=>k_is);(case c2=>k_is);(case k2=>k_is)
    (case a3=>k_is);(case l3=>k_is);(case c3=>k_is);(case k3=>k_is)
    (case a4=>k_is);(case l4=>k_is);(case c4=>k_is);(case k4=>k_is)
    (case a5=>k_is);(case l5=>k_is);(case c5=>k_is);(case k5=>k_is)
    (case a6=>k_is);(case l6=>k_is);(case c6=>k_is);(case k6=>k_is)
    (case a7=>k_is);(case l7=>k_is);(case c7=>k_is);(case k7=>k_is)
    (case a8=>k_is);(case l8=>k_is);(case c8=>k_is);(case k8=>k_is)
    (case a9=>k_is);(case l9=>k_is);(case c9=>k_is);(case k9=>k_is)
    (case a10=>k_is);(case l10=>k_is);(case c10=>k_is);(case k10=>k_is)
    (case a11=>k_is);(case l11=>k_is);(case c11=>k_is);(case k11=>k_is)
    (case a12=>k_is);(case l12=>k_is);(case c12=>k_is);(case k12=>k_is)
    (case a13=>k_is);(case l13=>k_is);(case c13=>k_is);(case k13=>k_is)
    (case a14=>k_is);(case l14=>k_is);(case c14=>k_is);(case k14=>k_is)
    (case a15=>k_is);(case l15=>k_is);(case c15=>k_is);(case k15=>k_is)
    (case a16=>k_is);(case l16=>k_is);(case c16=>k_is);(case k16=>k_is)
    (case a17=>k_is);(case l17=>k_is);(case c17=>k_is);(case k17=>k_is)
    (case a18=>k_is);(case l18=>k_is);(case c18=>k_is);(case k18=>k_is)
    (case a19=>k_is);(case l19=>k_is);(case c19=>k_is);(case k19=>k_is)
    (case a20=>k_is);(case l20=>k_is);(case c20=>k_is);(case k20=>k_is)
    (case a21=>k_is);(case l21=>k_is);(case c21=>k_is);(case k21=>k_is)
    (case a22=>k_is);(case l22=>k_is);(case c22=>k_is);(case k22=>k_is)
    (case a23=>k_is);(case l23=>k_is);(case c23=>k_is);(case k23=>k_is)
    (case a24=>k_is);(case l24=>k_is);(case c24=>k_is);(case k24=>k_is)
    (case a25=>k_is);(case l25=>k_is);(case c25=>k_is);(case k25=>k_is)
    (case a26=>k_is);(case l26=>k_is);(case c26=>k_is);(case k26=>k_is)
    (case a27=>k_is);(case l27=>k_is);(case c27=>k_is);(case k27=>k_is)
    (case a28=>k_is);(case l28=>k_is);(case c28=>k_is);(case k28=>k_is)
    (case a29=>k_is);(case l29=>k_is);(case c29=>k_is);(case k29=>k_is)
    (case a30=>k_is);(case l30=>k_is);(case c30=>k_is);(case k30=>k_is)
    (case a31=>k_is);(case l31=>k_is);(case c31=>k_is);(case k31=>k_is)
    (case a32=>k_is);(case l32=>k_is);(case c32=>k_is);(case k32=>k_is)
    (case a33=>k_is);(case l33=>k_is);(case c33=>k_is);(case k33=>k_is)
    (case a34=>k_is);(case l34=>k_is);(case c34=>k_is);(case k34=>k_is)
    (case a35=>k_is);(case l35=>k_is);(case c35=>k_is);(case k35=>k_is)
    (case a36=>k_is);(case l36=>k_is);(case c36=>k_is);(case k36=>k_is)
    (case x1=>k_is)
    (case x2=>k_is)
    (case x3=>k_is)
    (case x4=>k_is)
    (case x5=>k_is)
    (case x6=>k_is)
    (case x7=>k_is)
    (case x8=>first|kernel_rfl|decide +kernel)
    (case kk_MOST_WIDE=>k_is)
    (case xN=>first|kernel_rfl|decide +kernel)
    (case z1=>k_is)
    (case z2=>k_is)
    (case z3=>k_is)
    (case z4=>k_is)
    (case z5=>k_is)
    (case z6=>k_is)
    (case z7=>k_is)
    (case z8=>k_is)
    (case z9=>k_is)
    (case z10=>k_is)
    (case z11=>k_is)
    (case z12=>k_is)
    (case z13=>k_is)
    (case z14=>k_is)
    (case z15=>k_is)
    (case z16=>k_is)
    (case z17=>k_is)
    (case z18=>k_is)
    (case z19=>k_is)
    (case z20=>k_is)
    (case z21=>k_is)
#print axioms PySem.Challenge.cw_roundwords_k26_best_wide_papers_holds
end
