import PyProof.Rows.All
import Wide.All
import OpenK.AllK
import Wide.FinOn
import Lean
import PyProof.EqAt
import PyProof.EqKinds
import PyProof.TupleCall
import KE.KUnpack
import PyProof.ListRange
import PyProof.TupleOfGen
import PyProof.NeKinds
import KE.KRevIter
import PyProof.FactsAll.range_2
import KE.KTryMore
import PyProof.IsRules
import PyProof.IsInstanceH
import PyProof.ReprRoads
import PyProof.CallStr
import KE.KSortTup
import PySem.Challenge.RW_roundwords_k31_counts_of_weights
set_option Elab.async false
set_option linter.all false
set_option maxRecDepth 100000
set_option maxHeartbeats 4000000
noncomputable section
local macro_rules|`(tactic|trivial)=>`(tactic|first|exact .inl rfl|exact .inr rfl|assumption)
local macro_rules|`(⋯)=>`((by rfl))
theorem yh1:PySem.Challenge.rw_roundwords_k31_counts_of_weights.wellSaid=true:=by decide +kernel
section
open PySem PySem.Spec PySem.W PySem.Calls PyProof.Rows PyProof
theorem xA0:type_of% @List.length_map:=@List.length_map
theorem xA1:type_of% @wpAny_bind:=@wpAny_bind
theorem xA2:type_of% @Heap.get?_push_of_some:=@Heap.get?_push_of_some
theorem xA3:type_of% @wpAny_pure:=@wpAny_pure
theorem xA4:type_of% @Nat.le_refl:=@Nat.le_refl
theorem xA5:type_of% @List.getElem?_eq_getElem:=@List.getElem?_eq_getElem
theorem xA6:type_of% @Heap.get?_push_size:=@Heap.get?_push_size
theorem xA7:type_of% @List.mem_cons_of_mem:=@List.mem_cons_of_mem
theorem xA8:type_of% @List.getElem?_map:=@List.getElem?_map
theorem xA9:type_of% @List.mem_cons:=@List.mem_cons
theorem xAa:type_of% @List.size_toArray:=@List.size_toArray
theorem xAb:type_of% @List.mem_cons_self:=@List.mem_cons_self
theorem xAc:type_of% @List.mem_append_right:=@List.mem_append_right
theorem xAd:type_of% @Heap.lt_size:=@Heap.lt_size
theorem xAe:type_of% @List.map_append:=@List.map_append
theorem xAf:type_of% @List.getD_eq_getElem?_getD:=@List.getD_eq_getElem?_getD
theorem xAg:type_of% @List.mem_map:=@List.mem_map
theorem xAh:type_of% @wpS_bind:=@wpS_bind
theorem xAi:type_of% @PySem.W.mg_of:=@PySem.W.mg_of
theorem xAj:type_of% @of_decide_eq_true:=@of_decide_eq_true
theorem xAk:type_of% @List.getElem?_eq_some_iff:=@List.getElem?_eq_some_iff
theorem xAl:type_of% @PassesOwn.never:=@PassesOwn.never
theorem xAm:type_of% @Array.length_toList:=@Array.length_toList
theorem xAn:type_of% @List.not_mem_nil:=@List.not_mem_nil
theorem xAo:type_of% @Bool.false_ne_true:=@Bool.false_ne_true
theorem xAp:type_of% @wpS_pure:=@wpS_pure
theorem xAq:type_of% @List.length_replicate:=@List.length_replicate
theorem xAr:type_of% @List.length_range:=@List.length_range
theorem xAs:type_of% @Int.toNat_natCast:=@Int.toNat_natCast
theorem xAt:type_of% @List.length_append:=@List.length_append
theorem xAu:type_of% @PySem.W.mg_none_of:=@PySem.W.mg_none_of
theorem xAv:type_of% @Option.some.inj:=@Option.some.inj
theorem xAw:type_of% @List.mem_range:=@List.mem_range
theorem xAx:type_of% @Bool.and_eq_true:=@Bool.and_eq_true
theorem xAy:type_of% @List.map_congr_left:=@List.map_congr_left
theorem xAz:type_of% @Nat.lt_of_lt_of_le:=@Nat.lt_of_lt_of_le
theorem xAA:type_of% @List.mem_singleton:=@List.mem_singleton
theorem xAB:type_of% @Nat.le_trans:=@Nat.le_trans
theorem xAC:type_of% @List.length_take:=@List.length_take
theorem xAD:type_of% @Nat.pow_succ:=@Nat.pow_succ
theorem xAE:type_of% @List.mem_append:=@List.mem_append
theorem xAF:type_of% @Nat.ne_of_lt:=@Nat.ne_of_lt
theorem xAG:type_of% @decide_eq_true:=@decide_eq_true
theorem xAH:type_of% @List.replicate_succ:=@List.replicate_succ
theorem xAI:type_of% @Nat.pow_le_pow_right:=@Nat.pow_le_pow_right
theorem xAJ:type_of% @List.take_length:=@List.take_length
theorem xAK:type_of% @List.mem_append_left:=@List.mem_append_left
theorem xAL:type_of% @List.getElem?_range:=@List.getElem?_range
theorem xAM:type_of% @Array.getElem?_eq_getElem:=@Array.getElem?_eq_getElem
theorem xAN:type_of% @wpAny_newObj_type:=@wpAny_newObj_type
theorem xAO:type_of% @List.length_cons:=@List.length_cons
theorem xAP:type_of% @List.ext_getElem:=@List.ext_getElem
theorem xAQ:type_of% @wpAny_mono:=@wpAny_mono
theorem xAR:type_of% @Nat.mod_lt:=@Nat.mod_lt
theorem xAS:type_of% @Nat.lt_or_ge:=@Nat.lt_or_ge
theorem xAT:type_of% @PySem.boot_len:=@PySem.boot_len
theorem xAU:type_of% @List.getElem?_append_right:=@List.getElem?_append_right
theorem xAV:type_of% @wpAny_callSpecial?_slot:=@wpAny_callSpecial?_slot
theorem xAW:type_of% @Heap.get?_update_other:=@Heap.get?_update_other
theorem xAX:type_of% @wpAny_call_entry:=@wpAny_call_entry
theorem xAY:type_of% @PyProof.Rows.callWith_type1:=@PyProof.Rows.callWith_type1
theorem xAZ:type_of% @Nat.eq_zero_or_pos:=@Nat.eq_zero_or_pos
theorem xB0:type_of% @or_false:=@or_false
theorem xB1:type_of% @Nat.pow_pos:=@Nat.pow_pos
theorem xB2:type_of% @Array.toList_append:=@Array.toList_append
theorem xB3:type_of% @wpAny_ite_split:=@wpAny_ite_split
theorem xB4:type_of% @List.all_eq_true:=@List.all_eq_true
theorem xB5:type_of% @List.append_assoc:=@List.append_assoc
theorem xB6:type_of% @Heap.size_push:=@Heap.size_push
theorem xB7:type_of% @Nat.zero_le:=@Nat.zero_le
theorem xB8:type_of% @Obj.data_mapFields:=@Obj.data_mapFields
theorem xB9:type_of% @wpAny_rule:=@wpAny_rule
theorem xBa:type_of% @List.eq_of_mem_replicate:=@List.eq_of_mem_replicate
theorem xBb:type_of% @Nat.mul_comm:=@Nat.mul_comm
theorem xBc:type_of% @List.mem_of_getElem?:=@List.mem_of_getElem?
theorem xBd:type_of% @List.range_succ:=@List.range_succ
theorem xBe:type_of% @List.nodup_cons:=@List.nodup_cons
theorem xBf:type_of% @wpAny_holding:=@wpAny_holding
theorem xBg:type_of% @Heap.get?_update_self:=@Heap.get?_update_self
theorem xBh:type_of% @List.getElem_range:=@List.getElem_range
theorem xBi:type_of% @List.take_succ_eq_append_getElem:=@List.take_succ_eq_append_getElem
theorem xBj:type_of% @Nat.dvd_of_mod_eq_zero:=@Nat.dvd_of_mod_eq_zero
theorem xBk:type_of% @Nat.div_div_eq_div_mul:=@Nat.div_div_eq_div_mul
theorem xBl:type_of% @wpAny_field:=@wpAny_field
theorem xBm:type_of% @decide_eq_true_eq:=@decide_eq_true_eq
theorem xBn:type_of% @List.getElem?_append_left:=@List.getElem?_append_left
theorem xBo:type_of% @beq_self_eq_true:=@beq_self_eq_true
theorem xBp:type_of% @List.getElem_mem:=@List.getElem_mem
theorem xBq:type_of% @List.getElem_map:=@List.getElem_map
theorem xBr:type_of% @Around.under_plainId:=@Around.under_plainId
theorem xBs:type_of% @wpAny_of_eq:=@wpAny_of_eq
theorem xBt:type_of% @decide_eq_false:=@decide_eq_false
theorem xBu:type_of% @Heap.SameBut.update:=@Heap.SameBut.update
end
section
-- text: PpList
namespace L2
open PySem PySem.Spec PyProof.Rows
noncomputable abbrev Key:=Sum Int Str
noncomputable def zfd:Key->Value->Bool
 | .inl k,v=>Value.isInt k v
 | .inr x,v=>Value.isStrOf x v
noncomputable def keyH(w:World):Key->Int
 | .inl k=>hashInt k
 | .inr x=>hashStr w x
theorem yaD:∀ {k:Key} {v:Value},zfd k v=true->(∃i t,k=Sum.inl i/\v=Value.int i t)\/(∃x t,k=Sum.inr x/\v=Value.str x t)
 | .inl i,v,h=>by
  obtain⟨t,e⟩:=Value.isInt_shape (k:=i) (v:=v) h;exact .inl ⟨i,t,rfl,e⟩
 | .inr x,v,h=>by
  obtain⟨t,e⟩:=Value.isStrOf_shape (x:=x) (v:=v) h;exact .inr ⟨x,t,rfl,e⟩
theorem zfo(i:Int)(t:Tok):zfd (.inl i) (.int i t)=true:=by simp[zfd,Value.isInt]
theorem yfN(x:Str)(t:Tok):zfd (.inr x) (.str x t)=true:=by simp[zfd,Value.isStrOf]
theorem zhK(a b:Int):decide ((Sum.inl a:Key)=Sum.inl b)=(a==b):=by
 by_cases e:a=b
 ·subst e;simp
 ·have h:¬ (Sum.inl a:Key)=Sum.inl b:=λq=>e (Sum.inl.inj q)
  rw[xBt h];exact(beq_eq_false_iff_ne.mpr e).symm
theorem zhT(a b:Str):decide ((Sum.inr a:Key)=Sum.inr b)=decide (a=b):=by
 by_cases e:a=b
 ·subst e;simp
 ·have h:¬ (Sum.inr a:Key)=Sum.inr b:=λq=>e (Sum.inr.inj q)
  rw[xBt h,xBt e]
theorem yh6(a:Int)(b:Str):decide ((Sum.inl a:Key)=Sum.inr b)=false:=xBt (λq=>nomatch q)
theorem zh2(a:Str)(b:Int):decide ((Sum.inr a:Key)=Sum.inl b)=false:=xBt (λq=>nomatch q)
noncomputable def yaH(prog:Program)(w:World):PySem.KeyKind prog w Key where
 is:=zfd
 hash:=keyH w
 inj:=λv a b ha hb=>by
  rcases yaD ha with⟨i,t,rfl,rfl⟩ |⟨x,t,rfl,rfl⟩
  ·rcases yaD hb with⟨j,u,rfl,e⟩ |⟨y,u,rfl,e⟩
   ·injection e with e1 _;rw[e1]
   ·exact nomatch e
  ·rcases yaD hb with⟨j,u,rfl,e⟩ |⟨y,u,rfl,e⟩
   ·exact nomatch e
   ·injection e with e1 _;rw[e1]
 byValue:=λk v h=>by
  rcases yaD h with⟨i,t,rfl,rfl⟩ |⟨x,t,rfl,rfl⟩ <;> rfl
 pyHash:=λhv h=>by
  rcases yaD hv with⟨i,t,rfl,rfl⟩ |⟨x,t,rfl,rfl⟩
  ·exact wpAny_pyHash_int h
  ·exact wpAny_pyHash_str h
 eqBool:=λhu hv h=>by
  rcases yaD hu with⟨i,t,rfl,rfl⟩ |⟨x,t,rfl,rfl⟩
  ·rcases yaD hv with⟨j,u,rfl,rfl⟩ |⟨y,u,rfl,rfl⟩
   ·rw[zhK]at h;exact wpAny_eqBool_int h
   ·rw[yh6]at h;exact SeqAt.EqAt.int_str i t y u _ _ _ _ h
  ·rcases yaD hv with⟨j,u,rfl,rfl⟩ |⟨y,u,rfl,rfl⟩
   ·rw[zh2]at h;exact SeqAt.EqAt.str_int x t j u _ _ _ _ h
   ·rw[zhT]at h;exact wpAny_eqBool_str h
 «strs»:=λk x t v h=>by
  rcases yaD h with⟨i,u,rfl,e⟩ |⟨y,u,rfl,e⟩
  ·exact nomatch e
  ·injection e with e1 _;subst e1;cases v <;> rfl
theorem zej(prog:Program)(w:World)(i:Int)(t:Tok):(yaH prog w).is (.inl i) (.int i t)=true:=zfo i t
theorem zey(prog:Program)(w:World)(x:Str)(t:Tok):(yaH prog w).is (.inr x) (.str x t)=true:=yfN x t
end L2
namespace L2
open PySem PySem.Spec PyProof.Rows
inductive V where
 |non|bl (b:Bool)|int (i:Int)|str (x:Str)|byt (b:Array UInt8)|flt (b:UInt64)|ref (a:Addr)|ty (n:String)
 deriving DecidableEq
noncomputable def RelV:V->Value->Prop
 | .non,u=>u=Value.none
 | .bl b,u=>u=Value.bool b
 | .int i,u=>∃t,u=Value.int i t
 | .str x,u=>∃t,u=Value.str x t
 | .byt b,u=>∃t,u=Value.bytes b t
 | .flt b,u=>∃t,u=Value.float b t
 | .ref a,u=>u=Value.ref a
 | .ty n,u=>u=Value.type n
noncomputable abbrev Vals:List V->List Value->Prop:=Paired RelV
theorem Vals.length{xs:List V}{us:List Value}(r:Vals xs us):xs.length=us.length:=Paired.length r
theorem Vals.get:∀ {xs:List V} {us:List Value} {i:Nat} {x:V},Vals xs us->xs[i]?=some x->∃u,us[i]?=some u/\RelV x u
 |_,_,_,_,.nil,e=>by simp at e
 |_,_,0,_,.cons r _,e=>by simp at e;subst e;exact⟨_,rfl,r⟩
 |_,_,i+1,x,.cons _ t,e=>by
  obtain⟨u,h1,h2⟩:=Vals.get (i:=i) (x:=x) t (by simpa using e);exact⟨u,by simpa using h1,h2⟩
theorem Vals.set{x:V}{u:Value}(r:RelV x u):∀ {xs:List V} {us:List Value} (i:Nat),Vals xs us->Vals (xs.set i x) (us.set i u)
 |_,_,_,.nil=>.nil
 |_,_,0,.cons _ t=>.cons r t
 |_,_,i+1,.cons q t=>.cons q (Vals.set r i t)
theorem Vals.append:∀ {xs ys:List V} {us ws:List Value},Vals xs us->Vals ys ws->Vals (xs++ys) (us++ws)
 |_,_,_,_,.nil,s=>s
 |_,_,_,_,.cons r t,s=>.cons r (Vals.append t s)
theorem Vals.take:∀ {xs:List V} {us:List Value} (n:Nat),Vals xs us->Vals (xs.take n) (us.take n)
 |_,_,0,_=>.nil
 |_,_,_+1,.nil=>.nil
 |_,_,n+1,.cons r t=>.cons r (Vals.take n t)
theorem Vals.drop:∀ {xs:List V} {us:List Value} (n:Nat),Vals xs us->Vals (xs.drop n) (us.drop n)
 |_,_,0,r=>r
 |_,_,_+1,.nil=>.nil
 |_,_,n+1,.cons _ t=>Vals.drop n t
noncomputable def RelO:Option V->Option Value->Prop
 |some v,some u=>RelV v u
 |none,none=>True
 |_,_=>False
noncomputable def KV{κ:Type}:List (κ×V)->List (κ×Value)->Prop:=Paired λ(p:κ×V) (q:κ×Value)=>p.1=q.1/\RelV p.2 q.2
noncomputable def kV:Key->V
 | .inl i=>.int i
 | .inr x=>.str x
inductive HO where
 |lst (xs:List V)
 |tup (xs:List V)
 |dK (kvs:List (Key×V))|dT (kvs:List (List Key×V))
 |set (S:Int->Bool) (n:Nat)
 |ins (C dx:Addr) (fs:List (Str×V))
 |own (x:Addr)
 |xd (fs:List (Str×V))
 |met (f x:Addr)
 |rng (lo hi:Int)
 |frz (o:Obj) (u:HO)
 |tbl (ps:Array Value)
 |ext (φ:Heap->Prop)
noncomputable abbrev Hp:=Addr->Option HO
noncomputable def upd(H:Hp)(a:Addr)(o:HO):Hp:=λb=>if b=a then some o else H b
theorem yaa{H:Hp}{a:Addr}{o:HO}:upd H a o a=some o:=by unfold upd;rw[if_pos rfl]
theorem yag{H:Hp}{a b:Addr}{o:HO}(h:b≠a):upd H a o b=H b:=by unfold upd;rw[if_neg h]
theorem zek{H:Hp}{a:Addr}{o u:HO}:upd (upd H a o) a u=upd H a u:=by
 funext b;unfold upd;split <;> rfl
theorem yaf{H:Hp}{a b:Addr}{o:HO}(h:H a=some o)(h':H b=none):a≠b:=by
 intro e;subst e;rw[h]at h';cases h'
section
variable (P:Program) (w:World)
noncomputable def yba(H:Hp)(h:Heap)(a:Addr):HO->Prop
 | .lst xs=>xs.length<=sizeLine/\∃(its:List Value) (n:Nat),Vals xs its/\h.get? a=some { cls:=.type "list",data:=.seq its.toArray n }
 | .tup xs=>xs.length<=sizeLine/\∃its:List Value,Vals xs its/\IsTup h a its.toArray
 | .dK kvs=>kvs.length<=sizeLine/\(a==sysModules)=false/\∃vs,KV kvs vs/\h.DictOf (yaH P w) a vs
 | .dT kvs=>kvs.length<=sizeLine/\(a==sysModules)=false/\∃xs:List (List Key×Addr×Value),
   Paired (λ(p:List Key×V) (q:List Key×Addr×Value)=>p.1=q.1/\H q.2.1=some (.tup (p.1.map kV))/\RelV p.2 q.2.2) kvs xs/\
   ∃o es ep,h.get? a=some o/\o.ExactDict/\o.data = .dict es ep/\es.toList=xs.map (entryOfKey (tupleKind (yaH P w)))/\(xs.map (·.1)).Nodup
 | .set S n=>h.SetOf (intKind P w) a S n
 | .ins C dx fs=>H dx=some (.own a)/\fs.length<=1000/\dx≠a/\h.get? a=some (PySem.W.instObj C dx)/\
   ∃mA,h.Ns1 dx mA/\(∀f,RelO (fs.lookup f) (mA f))/\PySem.Within mA (fs.map (·.1))
 | .own _=>∃o,h.get? a=some o
 | .xd fs=>∃mA,h.Ns1 a mA/\∀f,RelO (fs.lookup f) (mA f)
 | .rng lo hi=>∃t u v,h.get? a=some { cls:=.type "range",data:=.fields #[.int lo t,.int hi u,.int 1 v] }
 | .frz o u=>h.get? a=some o/\yba H h a u
 | .tbl ps=>h.get? a=some { cls:=.none,data:=.fields ps }
 | .met f x=>h.get? a=some (PySem.W.methodObj (.ref f) (.ref x))
 | .ext φ=>φ h/\(∃o,h.get? a=some o)/\∀h1 h2:Heap,φ h1->(∀o,h1.get? a=some o->h2.get? a=some o)->φ h2
noncomputable def HOk(H:Hp)(h:Heap):Prop:=∀a o,H a=some o->yba P w H h a o
end
section
variable {P:Program} {w:World} {H H':Hp} {h h':Heap} {a:Addr} {o:HO}
theorem yba.lt(x:yba P w H h a o):a<h.objs.size:=by
 cases o with
 |lst xs=>obtain⟨_,_,_,_,e⟩:=x;exact xAd e
 |tup xs=>obtain⟨_,_,_,p⟩:=x;exact p.lt
 |dK kvs=>obtain⟨_,_,_,_,o,_,_,e,_⟩:=x;exact xAd e
 |dT kvs=>obtain⟨_,_,_,_,o,_,_,e,_⟩:=x;exact xAd e
 |set S n=>obtain⟨o,_,_,_,e,_⟩:=x;exact xAd e
 |ins C dx fs=>obtain⟨_,_,_,e,_⟩:=x;exact xAd e
 |own y=>obtain⟨_,e⟩:=x;exact xAd e
 |xd fs=>obtain⟨_,⟨_,_,_,e,_⟩,_⟩:=x;exact xAd e
 |rng lo hi=>obtain⟨_,_,_,e⟩:=x;exact xAd e
 |frz ob u=>obtain⟨e,_⟩:=x;exact xAd e
 |tbl ps=>exact xAd (show h.get? a=some _ from x)
 |met f y=>exact xAd (show h.get? a=some _ from x)
 |ext φ=>obtain⟨_,⟨_,e⟩,_⟩:=x;exact xAd e
theorem Paired.mapP{α β:Type}{F G:α->β->Prop}:∀ {l₁:List α} {l₂:List β},Paired F l₁ l₂->(∀a b,F a b->G a b)->Paired G l₁ l₂
 |_,_,.nil,_=>.nil
 |_,_,.cons r t,f=>.cons (f _ _ r) (Paired.mapP t f)
theorem yba.stay(x:yba P w H h a o)(k:∀b u,(b=a\/H b=some (.own a))->h.get? b=some u->h'.get? b=some u)
  (ho:∀b,H b=some (.own a)->H' b=some (.own a)) (ht:∀b xs,H b=some (.tup xs)->H' b=some (.tup xs)):yba P w H' h' a o:=by
 induction o with
 |lst xs=>obtain⟨z,its,n,r,e⟩:=x;exact⟨z,its,n,r,k _ _ (.inl rfl) e⟩
 |tup xs=>obtain⟨z,its,r,ob,e,c⟩:=x;exact⟨z,its,r,ob,k _ _ (.inl rfl) e,c⟩
 |dK kvs=>obtain⟨z,y,vs,r,ob,es,ep,e,c⟩:=x;exact⟨z,y,vs,r,ob,es,ep,k _ _ (.inl rfl) e,c⟩
 |dT kvs=>
  obtain⟨z,y,xs,r,ob,es,ep,e,c⟩:=x;exact⟨z,y,xs,Paired.mapP r λp q z=>⟨z.1,ht _ _ z.2.1,z.2.2⟩,ob,es,ep,k _ _ (.inl rfl) e,c⟩
 |set S n=>obtain⟨ob,es,ep,t,e,c⟩:=x;exact⟨ob,es,ep,t,k _ _ (.inl rfl) e,c⟩
 |ins C dx fs=>
  obtain⟨d,z,ne,e,mA,⟨od,es,ep,e2,c⟩,r⟩:=x;exact⟨ho _ d,z,ne,k _ _ (.inl rfl) e,mA,⟨od,es,ep,k _ _ (.inr d) e2,c⟩,r⟩
 |own y=>obtain⟨ob,e⟩:=x;exact⟨ob,k _ _ (.inl rfl) e⟩
 |xd fs=>obtain⟨mA,⟨od,es,ep,e,c⟩,r⟩:=x;exact⟨mA,⟨od,es,ep,k _ _ (.inl rfl) e,c⟩,r⟩
 |rng lo hi=>obtain⟨t,u,v,e⟩:=x;exact⟨t,u,v,k _ _ (.inl rfl) e⟩
 |frz ob u ih=>obtain⟨e,q⟩:=x;exact⟨k _ _ (.inl rfl) e,ih q⟩
 |tbl ps=>
  have e:h.get? a=some { cls:=.none,data:=.fields ps }:=x;show h'.get? a=some { cls:=.none,data:=.fields ps };exact k a _ (.inl rfl) e
 |met f y=>
  have e:h.get? a=some (PySem.W.methodObj (.ref f) (.ref y)):=x;show h'.get? a=some (PySem.W.methodObj (.ref f) (.ref y));exact k a _ (.inl rfl) e
 |ext φ=>obtain⟨p,⟨o,e⟩,st⟩:=x;exact⟨st _ _ p λo q=>k _ _ (.inl rfl) q,⟨o,k _ _ (.inl rfl) e⟩,st⟩
theorem HOk.lt(x:HOk P w H h)(e:H a=some o):a<h.objs.size:=(x a o e).lt
theorem HOk.fresh(x:HOk P w H h)(e:h.objs.size<=a):H a=none:=by
 cases q:H a with
 |none=>rfl
 |some u=>exact absurd (xAz (x.lt q) e) (Nat.lt_irrefl _)
theorem HOk.kept(x:HOk P w H h)(k:∀b u,h.get? b=some u->h'.get? b=some u):HOk P w H h':=λa o e=>
 (x a o e).stay (λb u _ q=>k b u q) (λ_ q=>q) λ_ _ q=>q
theorem HOk.laid(x:HOk P w H h)(k:∀b u,h.get? b=some u->h'.get? b=some u)(hp:h.objs.size<=a)(new:yba P w (upd H a o) h' a o):HOk P w (upd H a o) h':=λb u e=>by
 have hn:=x.fresh hp;by_cases hb:b=a
 ·subst hb;rw[yaa]at e;cases e;exact new
 ·rw[yag hb]at e;exact(x b u e).stay (λc v _ q=>k c v q) (λc q=>by rw[yag (yaf q hn)];exact q) λc xs q=>by rw[yag (yaf q hn)];exact q
end
noncomputable def Rd(H:Hp)(a:Addr)(u:HO):Prop:=H a=some u\/∃o,H a=some (.frz o u)
theorem Rd.ok{P:Program}{w:World}{H:Hp}{h:Heap}{a:Addr}{u:HO}(r:Rd H a u)(x:HOk P w H h):yba P w H h a u:=by
 rcases r with r |⟨o,r⟩
 ·exact x a u r
 ·obtain⟨_,q⟩:=x a _ r;exact q
noncomputable def Mut:Option HO->Prop
 |some (.lst _)=>True
 |some (.dK _)=>True
 |some (.dT _)=>True
 |some (.set _ _)=>True
 |some (.ins _ _ _)=>True
 |some (.ext _)=>True
 |_=>False
section
variable {P:Program} {w:World} {H:Hp} {h h':Heap} {x e:Addr} {o':HO}
theorem HOk.write(ok:HOk P w H h)(mu:Mut (H x))(he:e=x\/H e=some (.own x))(k:∀b u,b≠e->h.get? b=some u->h'.get? b=some u)(heo:∃u,h'.get? e=some u)
  (new:yba P w (upd H x o') h' x o'):HOk P w (upd H x o') h':=λb u q=>by
 have nown:∀c y,H c=some (.own y)->c≠x:=λc y r z=>by subst z;rw[r]at mu;exact mu
 have ntup:∀c xs,H c=some (.tup xs)->c≠x:=λc xs r z=>by subst z;rw[r]at mu;exact mu
 by_cases hb:b=x
 ·subst hb;rw[yaa]at q;cases q;exact new
 ·rw[yag hb]at q;by_cases hbe:b=e
  ·have q':H b=some (.own x):=by
    rcases he with z|z
    ·exact absurd (hbe.trans z) hb
    ·rw[hbe];exact z
   rw[q]at q';cases q';obtain⟨v,hv⟩:=heo;exact⟨v,by rw[hbe];exact hv⟩
  ·refine(ok b u q).stay (λc v hc r=>k c v ?_ r) (λc r=>by rw[yag (nown c b r)];exact r) λc xs r=>by rw[yag (ntup c xs r)];exact r
   rcases hc with rfl|hc
   ·exact hbe
   ·rintro rfl;rcases he with z|z
    ·exact nown c b hc z
    ·rw[hc]at z;cases z;exact hb rfl
end
structure Un(fs ex:List Addr)(H H':Hp)(h h':Heap):Prop where
 keep:∀b o,h.get? b=some o->H b=none->b∉fs->b∉ex->h'.get? b=some o
 slot:∀b o,h.get? b=some o->H b=none->b∈fs->b∉ex->∃sl,h'.get? b=some { o with slots:=sl }
 free:∀b o,h.get? b=some o->H b=none->b∉ex->H' b=none
 there:∀b o,h.get? b=some o->b∉ex->∃o',h'.get? b=some o'
 tups:∀b xs,H b=some (.tup xs)->H' b=some (.tup xs)
 frzs:∀b o u,H b=some (.frz o u)->H' b=some (.frz o u)
 tbls:∀b ps,H b=some (.tbl ps)->∃more,H' b=some (.tbl (ps++more))
section
variable {fs fs' ex ex':List Addr} {H H1 H2:Hp} {h h1 h2 h':Heap} {a x e:Addr} {o:HO}
theorem Un.any(u:Un fs ex H H1 h h1){b:Addr}{ob:Obj}(q:h.get? b=some ob)(n:H b=none)(hx:b∉ex):∃sl,h1.get? b=some { ob with slots:=sl }:=by
 by_cases hb:b∈fs
 ·exact u.slot b ob q n hb hx
 ·exact⟨ob.slots,u.keep b ob q n hb hx⟩
theorem Un.kept(k:∀b u,h.get? b=some u->h'.get? b=some u):Un fs ex H H h h' :=
 ⟨λb ob q _ _ _=>k b ob q,λb ob q _ _ _=>⟨ob.slots,k b ob q⟩,λ_ _ _ n _=>n,λb ob q _=>⟨ob,k b ob q⟩,λ_ _ q=>q,λ_ _ _ q=>q,λ_ ps q=>⟨#[],by rw[q];simp⟩⟩
theorem Un.refl:Un fs ex H H h h:=Un.kept λ_ _ q=>q
theorem Un.laid(k:∀b u,h.get? b=some u->h'.get? b=some u)(hp:h.objs.size<=a)(hn:H a=none):Un fs ex H (upd H a o) h h' where
 keep:=λb u q _ _ _=>k b u q
 slot:=λb u q _ _ _=>⟨u.slots,k b u q⟩
 free:=λb u q n _=>by rw[yag (xAF (xAz (xAd q) hp))];exact n
 there:=λb u q _=>⟨u,k b u q⟩
 tups:=λb xs q=>by rw[yag (yaf q hn)];exact q
 frzs:=λb u xs q=>by rw[yag (yaf q hn)];exact q
 tbls:=λb ps q=>⟨#[],by rw[yag (yaf q hn),q];simp⟩
theorem Un.write(mu:Mut (H x))(he:e=x\/H e=some (.own x))(k:∀b u,b≠e->h.get? b=some u->h'.get? b=some u)(heo:∃u,h'.get? e=some u):Un fs ex H (upd H x o) h h':=by
 have hx:∀b,H b=none->b≠x:=λb n z=>by subst z;rw[n]at mu;exact mu
 have hb:∀b,H b=none->b≠e:=λb n z=>by
  subst z;rcases he with r|r
  ·exact hx b n r
  ·rw[n]at r;cases r
 have hm:∀b u,H b=some u->¬ Mut (some u)->b≠x:=λb u q nm z=>by subst z;rw[q]at mu;exact nm mu
 refine⟨λb u q n _ _=>k b u (hb b n) q,λb u q n _ _=>⟨u.slots,k b u (hb b n) q⟩,λb u q n _=>by rw[yag (hx b n)];exact n,λb u q _=>?_,
  λb xs q=>by rw[yag (hm b _ q λz=>z)];exact q,λb u xs q=>by rw[yag (hm b _ q λz=>z)];exact q,λb ps q=>⟨#[],by rw[yag (hm b _ q λz=>z),q];simp⟩⟩
 by_cases hbe:b=e
 ·subst hbe;exact heo
 ·exact⟨u,k b u hbe q⟩
end
noncomputable def trk(h:Heap)(H:Hp):List Addr:=(List.range h.objs.size).filter λa=>(H a).isSome
noncomputable def hidT(h:Heap)(H:Hp):Heap:=PySem.W.hideAll h (trk h H)
theorem zfD(h:Heap)(H:Hp):(hidT h H).objs.size=h.objs.size:=PySem.W.hideAll_size _ _
theorem ygu{h:Heap}{H:Hp}{b:Addr}{o:Obj}(e:h.get? b=some o)(n:H b=none):(hidT h H).get? b=some o :=
 PySem.W.hideAll_get _ e λhm=>by
  have q:(H b).isSome=true:=(List.mem_filter.mp hm).2;rw[n]at q;simp at q
theorem zhG{h:Heap}{H:Hp}{b:Addr}{o:Obj}(e:(hidT h H).get? b=some o):h.get? b=some o/\H b=none:=by
 have e':h.get? b=some o:=PySem.W.of_hideAll (trk h H) e;refine⟨e',?_⟩;cases q:H b with
 |none=>rfl
 |some x=>
  have hm:b∈trk h H:=List.mem_filter.mpr ⟨xAw.mpr (xAd e'),by simp[q]⟩;have z:(hidT h H).get? b=none:=PySem.W.hideAll_none (trk h H) hm;rw[z]at e;cases e
end L2
namespace L2
open PySem PySem.Spec PyProof.Rows
structure Mod(K:PySem.W.Frag)(mg:Str->Option Value)(base:Heap):Prop where
 kin:K.In base
 glob:base.Ns mainGlobals mg
 blt:∃mb,base.Ns builtinsNs mb/\∀x:Str,x≠"__name__"->mb x=bootBuiltins x
 nolimit:base.NoLimit
structure Cx where
 prog:Program
 w:World
 K:PySem.W.Frag
 mg:Str->Option Value
 base:Heap
 A:Around
 N:List Str
 s₀:Shared
 H₀:Hp
 env:Env
 outer:List Env
 stack:List Env
 ex:List Addr
 fn:Str->Bool
 calm:Bool
 pn:List (Addr×Obj)
 xe:Value->Shared->Prop
noncomputable def frs(l:List Env):List Addr:=l.filterMap (·.frame)
noncomputable abbrev Cx.fs(X:Cx):List Addr:=frs X.outer
noncomputable def Vis(sc:Scope)(x:Str):Prop:=sc.names.lookup x=some .local\/sc.names.lookup x=some .cell\/sc.names.lookup x=some .free
noncomputable def Loc(sc:Scope)(x:Str):Prop:=sc.names.lookup x=some .local\/sc.names.lookup x=some .cell
noncomputable def Look(env:Env)(h:Heap)(m:Str->Option Value)(x:Str)(u:Value):Prop :=
 (env.kindOf x=some .local/\m x=some u)\/((env.kindOf x=some .cell\/env.kindOf x=some .free)/\∃c,env.cells.lookup x=some c/\h.IsCell c (some u))
structure Cx.Ok(X:Cx):Prop where
 mod:Mod X.K X.mg X.base
 kind:X.env.scope.kind = .function
 glob:X.env.globals=mainGlobals
 blt:X.env.builtins=builtinsNs
 above:X.s₀.heap.objs.size<=X.env.locals
 inj:∀x y c,X.env.cells.lookup x=some c->X.env.cells.lookup y=some c->x=y
 has:∀x,(X.env.kindOf x=some .cell\/X.env.kindOf x=some .free)->∃c,X.env.cells.lookup x=some c
 cab:∀x c,X.fn x=true->X.env.cells.lookup x=some c->X.s₀.heap.objs.size<=c
 hd:X.calm=true->X.A.handled=none
 frames:X.A.frames=some X.stack
 stk:X.stack=X.outer\/(X.stack=X.env::X.outer/\X.env.frame=some X.env.locals)
 exf:∀b∈X.ex,b≠X.env.locals/\∀x c,X.env.cells.lookup x=some c->c≠b
 bs:∀b o,X.base.get? b=some o->X.s₀.heap.get? b=some o/\X.H₀ b=none
 bsz:X.base.objs.size<=X.s₀.heap.objs.size
 noex:∀b o,X.base.get? b=some o->b∉X.ex
 exfs:∀b∈X.ex,b∉X.fs
 funs:X.s₀.heap.FunFrames X.base X.outer
 frf:∀b∈X.fs,X.H₀ b=none
structure Inv(X:Cx)(pins:List (Addr×Obj))(σ:List (Option V))(H:Hp)(s:Shared):Prop where
 ok:X.Ok
 os:s.os=X.s₀.os
 bare:AllBare s.gens
 base:Un X.fs X.ex X.H₀ H X.s₀.heap s.heap
 loc:∃m,s.heap.Ns X.env.locals m/\∀(i:Nat) (x:Str) (v:V),X.N[i]?=some x->σ[i]?=some (some v)->Vis X.env.scope x->∃u,RelV v u/\Look X.env s.heap m x u
 cell:∀x c,X.env.cells.lookup x=some c->∃v,s.heap.IsCell c v
 free:H X.env.locals=none
 freeC:∀x c,X.env.cells.lookup x=some c->H c=none
 pin:∀p∈X.pn++pins,s.heap.get? p.1=some p.2/\H p.1=none/\p.1≠X.env.locals/\p.1∉X.fs/\∀v,p.2.data≠.cell v
 hok:HOk X.prog X.w H s.heap
 len:σ.length=X.N.length
section
variable {X:Cx} {pins:List (Addr×Obj)} {σ:List (Option V)} {H H':Hp} {s:Shared} {h':Heap}
theorem Cx.Ok.nofr(ok:X.Ok){b:Addr}{o:Obj}(e:X.base.get? b=some o):b∉X.fs:=λhb=>by
 have:=(ok.funs.mem hb).1;rw[e]at this;cases this
theorem Inv.bs(I:Inv X pins σ H s):∀b o,X.base.get? b=some o->s.heap.get? b=some o/\H b=none:=λb o e=>
 ⟨I.base.keep b o (I.ok.bs b o e).1 (I.ok.bs b o e).2 (I.ok.nofr e) (I.ok.noex b o e),I.base.free b o (I.ok.bs b o e).1 (I.ok.bs b o e).2 (I.ok.noex b o e)⟩
theorem Inv.bk(I:Inv X pins σ H s):∀b o,X.base.get? b=some o->s.heap.get? b=some o:=λb o e=>(I.bs b o e).1
theorem Inv.mod(I:Inv X pins σ H s):Mod X.K X.mg X.base:=I.ok.mod
theorem Inv.kIn(I:Inv X pins σ H s):X.K.In s.heap:=I.ok.mod.kin.keeps I.bk
theorem Inv.lt(I:Inv X pins σ H s):X.env.locals<s.heap.objs.size:=let ⟨_,hn,_⟩:=I.loc;hn.lt
theorem Inv.sz(I:Inv X pins σ H s):X.s₀.heap.objs.size<=s.heap.objs.size:=xAB I.ok.above (Nat.le_of_lt I.lt)
theorem Inv.nofs(I:Inv X pins σ H s){a:Addr}(h:s.heap.objs.size<=a):a∉X.fs:=λhb=>by
 obtain⟨_,o,ho,_⟩:=I.ok.funs.mem hb;exact absurd (xAz (xAd ho) (xAB I.sz h)) (Nat.lt_irrefl _)
theorem Inv.cne(I:Inv X pins σ H s):∀x c,X.env.cells.lookup x=some c->c≠X.env.locals:=λx c e z=>by
 obtain⟨v,o,ho,hd⟩:=I.cell x c e;obtain⟨m,⟨o',es,ep,ho',hd',_⟩,_⟩:=I.loc;rw[z,ho']at ho;cases ho;rw[hd']at hd;cases hd
theorem Inv.funs(I:Inv X pins σ H s):s.heap.FunFrames X.base X.outer:=by
 have all:∀(l:List Env),(∀b∈frs l,b∈X.fs)->X.s₀.heap.FunFrames X.base l->s.heap.FunFrames X.base l:=by
  intro l
  induction l with
  |nil=>intro _ _;trivial
  |cons env r ih=>
   intro hs hl;obtain⟨hk,⟨L,o,hf,hn,ho,hd⟩,hr⟩:=hl;have hL:L∈X.fs:=hs L (by unfold frs;rw[List.filterMap_cons,hf];exact xAb);obtain⟨sl,e⟩:=I.base.slot L o ho (I.ok.frf L hL) hL λz=>I.ok.exfs L z hL
   exact⟨hk,⟨L,_,hf,hn,e,hd⟩,ih (λb hb=>hs b (by unfold frs;rw[List.filterMap_cons,hf];exact xA7 _ hb)) hr⟩
 exact all X.outer (λ_ hb=>hb) I.ok.funs
theorem Inv.stack(I:Inv X pins σ H s):s.heap.FunFrames X.base X.stack:=by
 rcases I.ok.stk with e |⟨e,hf⟩
 ·rw[e];exact I.funs
 ·rw[e];obtain⟨m,hn,_⟩:=I.loc;refine .cons (by rw[I.ok.kind];decide) hf hn ?_ I.funs;exact Heap.get?_none_of_le (xAB I.ok.bsz I.ok.above)
theorem Inv.stkSub(I:Inv X pins σ H s):∀b∈frs X.stack,b∈X.env.locals::X.fs:=λb hb=>by
 rcases I.ok.stk with e |⟨e,hf⟩
 ·rw[e]at hb;exact xA7 _ hb
 ·rw[e]at hb;unfold frs at hb;rw[List.filterMap_cons,hf]at hb;exact hb
theorem Inv.stkFree(I:Inv X pins σ H s):∀b∈frs X.stack,H b=none:=λb hb=>by
 rcases xA9.mp (I.stkSub b hb) with e|hb
 ·rw[e];exact I.free
 ·obtain⟨_,o,ho,_⟩:=I.ok.funs.mem hb;exact I.base.free b o ho (I.ok.frf b hb) λz=>I.ok.exfs b z hb
theorem Inv.step{g':Array GenState}{t':Nat}{d':Drawn}{ch:List Addr}(I:Inv X pins σ H s)
  (hch:∀b∈ch,(b∈X.ex\/X.s₀.heap.objs.size<=b)/\b≠X.env.locals/\(∀x c,X.env.cells.lookup x=some c->c≠b)/\∀p∈X.pn++pins,p.1≠b)
  (keep:∀b o,b≠X.env.locals->b∉X.fs->b∉ch->s.heap.get? b=some o->H b=none->h'.get? b=some o)
  (slot:∀b o,b≠X.env.locals->b∈X.fs->b∉ch->s.heap.get? b=some o->H b=none->∃sl,h'.get? b=some { o with slots:=sl }) (free:∀b o,b∉ch->s.heap.get? b=some o->H b=none->H' b=none)
  (there:∀b o,b∉ch->s.heap.get? b=some o->∃o',h'.get? b=some o')
  (tups:∀b xs,H b=some (.tup xs)->H' b=some (.tup xs)) (frzs:∀b o u,H b=some (.frz o u)->H' b=some (.frz o u)) (tbls:∀b ps,H b=some (.tbl ps)->∃more,H' b=some (.tbl (ps++more)))
  (ns:∀m,s.heap.Ns X.env.locals m->h'.Ns X.env.locals m) (hok:HOk X.prog X.w H' h') (hg:AllBare g') :
  Inv X pins σ H' { s with heap:=h',gens:=g',drawn:=d',toks:=t' }:=by
 have neL:∀b o,X.s₀.heap.get? b=some o->b≠X.env.locals:=λb o e=>xAF (xAz (xAd e) I.ok.above)
 have neC:∀b o,X.s₀.heap.get? b=some o->b∉X.ex->b∉ch:=λb o e hx hb=>by
  rcases(hch b hb).1 with z|z
  ·exact hx z
  ·exact absurd (xAz (xAd e) z) (Nat.lt_irrefl _)
 have cellK:∀x c,X.env.cells.lookup x=some c->∀v,s.heap.IsCell c v->h'.IsCell c v:=λx c e v ⟨o,ho,hd⟩=>by
  have nch:c∉ch:=λz=>(hch c z).2.2.1 x c e rfl
  by_cases hc:c∈X.fs
  ·obtain⟨sl,q⟩:=slot c o (I.cne x c e) hc nch ho (I.freeC x c e);exact⟨_,q,hd⟩
  ·exact⟨o,keep c o (I.cne x c e) hc nch ho (I.freeC x c e),hd⟩
 refine⟨I.ok,I.os,hg,⟨λb o e n hb hx=>?_,λb o e n hb hx=>?_,λb o e n hx=>?_,λb o e hx=>?_,λb xs e=>tups b xs (I.base.tups b xs e),λb o xs e=>frzs b o xs (I.base.frzs b o xs e),λb ps e=>?_⟩,?_,λx c e=>?_,?_,λx c e=>?_,λp hp=>?_,hok,I.len⟩
 ·exact keep b o (neL b o e) hb (neC b o e hx) (I.base.keep b o e n hb hx) (I.base.free b o e n hx)
 ·obtain⟨sl,e1⟩:=I.base.slot b o e n hb hx;obtain⟨sl',e2⟩:=slot b _ (neL b o e) hb (neC b o e hx) e1 (I.base.free b o e n hx);exact⟨sl',e2⟩
 ·obtain⟨o',e1⟩:=I.base.there b o e hx;exact free b o' (neC b o e hx) e1 (I.base.free b o e n hx)
 ·obtain⟨o',e1⟩:=I.base.there b o e hx;exact there b o' (neC b o e hx) e1
 ·obtain⟨m1,e1⟩:=I.base.tbls b ps e;obtain⟨m2,e2⟩:=tbls b _ e1;exact⟨m1++m2,by rw[e2,Array.append_assoc]⟩
 ·obtain⟨m,hn,hl⟩:=I.loc;refine⟨m,ns m hn,λi x v e1 e2 e3=>?_⟩;obtain⟨u,r,l⟩:=hl i x v e1 e2 e3;refine⟨u,r,?_⟩;rcases l with l |⟨k,c,e,z⟩
  ·exact .inl l
  ·exact .inr ⟨k,c,e,cellK x c e _ z⟩
 ·obtain⟨v,z⟩:=I.cell x c e;exact⟨v,cellK x c e v z⟩
 ·obtain⟨m,⟨o,_,_,ho,_⟩,_⟩:=I.loc;exact free _ o (λz=>(hch _ z).2.1 rfl) ho I.free
 ·obtain⟨v,o,ho,hd⟩:=I.cell x c e;exact free c o (λz=>(hch c z).2.2.1 x c e rfl) ho (I.freeC x c e)
 ·obtain⟨e,n,ne,nf,d⟩:=I.pin p hp;have nch:p.1∉ch:=λz=>(hch p.1 z).2.2.2 p hp rfl
  exact⟨keep p.1 p.2 ne nf nch e n,free p.1 p.2 nch e n,ne,nf,d⟩
theorem Inv.un{t':Nat}(I:Inv X pins σ H s)(u:Un X.fs [] H H' s.heap h')(hok:HOk X.prog X.w H' h'):Inv X pins σ H' { s with heap:=h',toks:=t' }:=by
 obtain⟨m,⟨o,es,ep,ho,r⟩,_⟩:=id I.loc;obtain⟨sl,hL⟩:=u.any ho I.free (by simp);exact I.step (g':=s.gens) (d':=s.drawn) (ch:=[]) (λ_ z=>nomatch z) (λb o _ hb _ e n=>u.keep b o e n hb (by simp)) (λb o _ hb _ e n=>u.slot b o e n hb (by simp)) (λb o _ e n=>u.free b o e n (by simp)) (λb o _ e=>u.there b o e (by simp)) u.tups u.frzs u.tbls (λm' hm=>by
  obtain⟨o',es',ep',ho',r'⟩:=hm;rw[ho]at ho';cases ho';exact⟨_,es',ep',hL,r'⟩) hok I.bare
theorem Inv.call{g':Array GenState}{t':Nat}{d':Drawn}{ch:List Addr}(I:Inv X pins σ H s)(u:Un (frs X.stack) ch H H' s.heap h')(hok:HOk X.prog X.w H' h')(hg:AllBare g')
  (hch:∀b∈ch,(b∈X.ex\/X.s₀.heap.objs.size<=b)/\b≠X.env.locals/\(∀x c,X.env.cells.lookup x=some c->c≠b)/\∀p∈X.pn++pins,p.1≠b) :
  Inv X pins σ H' { s with heap:=h',gens:=g',drawn:=d',toks:=t' }:=by
 obtain⟨m,⟨o,es,ep,ho,r⟩,_⟩:=id I.loc;obtain⟨sl,hL⟩:=u.any ho I.free λz=>(hch _ z).2.1 rfl
 exact I.step (ch:=ch) hch (λb o hL hb hc e n=>u.keep b o e n (λz=>(xA9.mp (I.stkSub b z)).elim hL hb) hc) (λb o _ _ hc e n=>u.any e n hc) (λb o hc e n=>u.free b o e n hc) (λb o hc e=>u.there b o e hc) u.tups u.frzs u.tbls (λm' hm=>by
  obtain⟨o',es',ep',ho',r'⟩:=hm;rw[ho]at ho';cases ho';exact⟨_,es',ep',hL,r'⟩) hok hg
theorem Inv.turned{t':Nat}{it:Addr}(I:Inv X pins σ H s)(k:∀b o,b≠it->s.heap.get? b=some o->h'.get? b=some o)(hn:H it=none)(hL:it≠X.env.locals)
  (h1:it∈X.ex\/X.s₀.heap.objs.size<=it) (h2:∀x c,X.env.cells.lookup x=some c->c≠it) (h3:∀p∈X.pn++pins,p.1≠it):Inv X pins σ H { s with heap:=h',toks:=t' }:=by
 have nit:∀b u,H b=some u->b≠it:=λb u e z=>by rw[z,hn]at e;cases e
 refine I.step (g':=s.gens) (d':=s.drawn) (ch:=[it]) (λb hb=>?_) (λb o _ _ hc e _=>k b o (λz=>hc (by simp[z])) e) (λb o _ _ hc e _=>⟨o.slots,k b o (λz=>hc (by simp[z])) e⟩) (λ_ _ _ _ n=>n)
  (λb o hc e=>⟨o,k b o (λz=>hc (by simp[z])) e⟩) (λ_ _ e=>e) (λ_ _ _ e=>e) (λb ps e=>⟨#[],by rw[e];simp⟩) (λm hm=>?_) (λb u e=>?_) I.bare
 ·have e:b=it:=by simpa using hb
  subst e;exact⟨h1,hL,h2,h3⟩
 ·obtain⟨o,es,ep,ho,r⟩:=hm;exact⟨o,es,ep,k _ o (Ne.symm hL) ho,r⟩
 ·refine(I.hok b u e).stay (λc v hc q=>k c v ?_ q) (λ_ q=>q) λ_ _ q=>q
  rcases hc with z|z
  ·rw[z];exact nit b u e
  ·exact nit c _ z
theorem Inv.tok(I:Inv X pins σ H s)(t:Nat):Inv X pins σ H { s with toks:=t }:=I.un (h':=s.heap) (t':=t) Un.refl I.hok
theorem Inv.kept{t':Nat}(I:Inv X pins σ H s)(k:∀b u,s.heap.get? b=some u->h'.get? b=some u):Inv X pins σ H { s with heap:=h',toks:=t' }:=I.un (Un.kept k) (I.hok.kept k)
theorem Inv.laid{a:Addr}{o:HO}{t':Nat}(I:Inv X pins σ H s)(k:∀b u,s.heap.get? b=some u->h'.get? b=some u)(hp:s.heap.objs.size<=a)(new:yba X.prog X.w (upd H a o) h' a o) :
  Inv X pins σ (upd H a o) { s with heap:=h',toks:=t' }:=I.un (Un.laid k hp (I.hok.fresh hp)) (I.hok.laid k hp new)
theorem Inv.write{x e:Addr}{o:HO}{t':Nat}(I:Inv X pins σ H s)(mu:Mut (H x))(he:e=x\/H e=some (.own x))(k:∀b u,b≠e->s.heap.get? b=some u->h'.get? b=some u)(heo:∃u,h'.get? e=some u)
  (new:yba X.prog X.w (upd H x o) h' x o):Inv X pins σ (upd H x o) { s with heap:=h',toks:=t' }:=I.un (Un.write mu he k heo) (I.hok.write mu he k heo new)
theorem Inv.pins_of{pins':List (Addr×Obj)}(I:Inv X pins σ H s)(h:∀p∈pins',s.heap.get? p.1=some p.2/\H p.1=none/\p.1≠X.env.locals/\p.1∉X.fs/\∀v,p.2.data≠.cell v):Inv X pins' σ H s :=
 ⟨I.ok,I.os,I.bare,I.base,I.loc,I.cell,I.free,I.freeC,λp hp=>(xAE.mp hp).elim (λz=>I.pin p (xAK _ z)) (h p),I.hok,I.len⟩
theorem zeK{N:List Str}(hN:N.Nodup){i j:Nat}{x:Str}(a:N[i]?=some x)(b:N[j]?=some x):i=j:=by
 obtain⟨h1,e1⟩:=xAk.mp a;obtain⟨h2,e2⟩:=xAk.mp b;exact(List.getElem_inj hN).mp (e1.trans e2.symm)
theorem yfX{M:Model}{A:Around}{E:Value->Shared->Prop}{i:Nat}{x:Str}{v:V}{u:Value}{Q:Unit->Shared->Prop}(I:Inv X pins σ H s)(hN:X.N.Nodup)(hi:X.N[i]?=some x)(hx:Loc X.env.scope x)(r:RelV v u)
  (h:∀s',Inv X pins (σ.set i (some v)) H s'->(∃a,Heap.SameBut a s.heap s'.heap/\(a=X.env.locals\/X.env.cells.lookup x=some a))->Q () s') (hf:X.fn x=true\/X.env.scope.names.lookup x=some .local:=by first|exact .inl rfl|exact .inr rfl|assumption):wpAny M A (storeName X.env x u) Q E s:=by
 obtain⟨m,hn,hl⟩:=id I.loc;have hcls:(X.env.scope.kind==.class||(X.env.scope.kind==.module&&X.env.locals != X.env.globals))=false:=by rw[I.ok.kind];rfl
 have hiσ:i < σ.length:=by rw[I.len];exact(xAk.mp hi).1
 have cne:=I.cne;have tracked:∀ {a:Addr} {h':Heap},(∃o,s.heap.get? a=some o/\H a=none)->Heap.SameBut a s.heap h'->HOk X.prog X.w H h':=λ{a h'} ha hs b ob e=>by
  obtain⟨_,_,hfree⟩:=ha;refine(I.hok b ob e).stay (λc w' hc q=>(hs.2 c ?_).trans q) (λ_ q=>q) λ_ _ q=>q
  rintro rfl;rcases hc with rfl|hc
  ·rw[hfree]at e;cases e
  ·rw[hfree]at hc;cases hc
 rcases hx with hk|hk
 ·refine wpAny_storeName_local hk hn (λh' hn' hs=>?_) hcls;obtain⟨oL,_,_,hoL,_⟩:=id hn;refine h _ ⟨I.ok,I.os,I.bare,⟨λb o e n hb hx=>?_,λb o e n hb hx=>?_,I.base.free,λb o e hx=>?_,I.base.tups,I.base.frzs,I.base.tbls⟩,⟨_,hn',λj y v' e1 e2 e3=>?_⟩,λy c e=>?_,I.free,I.freeC,λp hp=>?_,tracked ⟨oL,hoL,I.free⟩ hs,by simpa using I.len⟩ ⟨_,hs,.inl rfl⟩
  ·exact(hs.2 b (xAF (xAz (xAd e) I.ok.above))).trans (I.base.keep b o e n hb hx)
  ·obtain⟨sl,e1⟩:=I.base.slot b o e n hb hx;exact⟨sl,(hs.2 b (xAF (xAz (xAd e) I.ok.above))).trans e1⟩
  ·obtain⟨o',e1⟩:=I.base.there b o e hx;exact⟨o',(hs.2 b (xAF (xAz (xAd e) I.ok.above))).trans e1⟩
  ·by_cases hj:j=i
   ·subst hj;rw[hi]at e1;cases e1;rw[List.getElem?_set_self hiσ]at e2;cases e2;exact⟨u,r,.inl ⟨hk,by simp⟩⟩
   ·rw[List.getElem?_set_ne (Ne.symm hj)]at e2;obtain⟨u',r',q⟩:=hl j y v' e1 e2 e3;refine⟨u',r',?_⟩;rcases q with⟨k,e⟩ |⟨k,c,e,z⟩
    ·refine .inl ⟨k,?_⟩;have:y≠x:=λe=>hj (zeK hN e1 (e ▸ hi))
     simp[this,e]
    ·exact .inr ⟨k,c,e,z.sameBut hs (cne y c e)⟩
  ·obtain⟨w',z⟩:=I.cell y c e;exact⟨w',z.sameBut hs (cne y c e)⟩
  ·obtain⟨e,n,ne,nf,d⟩:=I.pin p hp;exact⟨(hs.2 p.1 ne).trans e,n,ne,nf,d⟩
 ·have hfn:X.fn x=true:=by
   rcases hf with z|z
   ·exact z
   ·rw[z]at hk;cases hk
  obtain⟨c,hc⟩:=I.ok.has x (.inl hk);obtain⟨w',z⟩:=I.cell x c hc;refine wpAny_storeName_cell I.ok.kind hk hc z (λh' hc' hs=>?_);obtain⟨oc,hoc,hocd⟩:=id z;refine h { s with heap:=h' } ⟨I.ok,I.os,I.bare,⟨λb o e n hb hx=>?_,λb o e n hb hx=>?_,I.base.free,λb o e hx=>?_,I.base.tups,I.base.frzs,I.base.tbls⟩,⟨m,hn.sameBut hs (Ne.symm (cne x c hc)),λj y v' e1 e2 e3=>?_⟩,λy c' e=>?_,I.free,I.freeC,λp hp=>?_,tracked ⟨oc,hoc,I.freeC x c hc⟩ hs,by simpa using I.len⟩ ⟨c,hs,.inr hc⟩
  ·exact(hs.2 b (xAF (xAz (xAd e) (I.ok.cab x c hfn hc)))).trans (I.base.keep b o e n hb hx)
  ·obtain⟨sl,e1⟩:=I.base.slot b o e n hb hx;exact⟨sl,(hs.2 b (xAF (xAz (xAd e) (I.ok.cab x c hfn hc)))).trans e1⟩
  ·obtain⟨o',e1⟩:=I.base.there b o e hx;exact⟨o',(hs.2 b (xAF (xAz (xAd e) (I.ok.cab x c hfn hc)))).trans e1⟩
  ·by_cases hj:j=i
   ·subst hj;rw[hi]at e1;cases e1;rw[List.getElem?_set_self hiσ]at e2;cases e2;exact⟨u,r,.inr ⟨.inl hk,c,hc,hc'⟩⟩
   ·rw[List.getElem?_set_ne (Ne.symm hj)]at e2;obtain⟨u',r',q⟩:=hl j y v' e1 e2 e3;refine⟨u',r',?_⟩;rcases q with q |⟨k,c',e,z'⟩
    ·exact .inl q
    ·refine .inr ⟨k,c',e,z'.sameBut hs ?_⟩;rintro rfl;exact hj (zeK hN e1 (I.ok.inj _ _ _ e hc ▸ hi))
  ·by_cases hcc:c'=c
   ·subst hcc;exact⟨_,hc'⟩
   ·obtain⟨w2,z2⟩:=I.cell y c' e;exact⟨w2,z2.sameBut hs hcc⟩
  ·obtain⟨e,n,ne,nf,d⟩:=I.pin p hp;refine⟨(hs.2 p.1 ?_).trans e,n,ne,nf,d⟩;intro q;rw[q,hoc]at e;have q':oc=p.2:=xAv e;exact d w' (by rw[<-q'];exact hocd)
theorem yaX{M:Model}{A:Around}{E:Value->Shared->Prop}{i:Nat}{x:Str}{v:V}{u:Value}{Q:Unit->Shared->Prop}(I:Inv X pins σ H s)(hN:X.N.Nodup)(hi:X.N[i]?=some x)(hx:Loc X.env.scope x)(r:RelV v u)
  (h:∀s',Inv X pins (σ.set i (some v)) H s'->Q () s') (hf:X.fn x=true\/X.env.scope.names.lookup x=some .local:=by first|exact .inl rfl|exact .inr rfl|assumption):wpAny M A (storeName X.env x u) Q E s :=
 yfX I hN hi hx r (λs' I' _=>h s' I') hf
theorem Inv.call'{s':Shared}{ch:List Addr}(I:Inv X pins σ H s)(ho:s'.os=s.os)(u:Un (frs X.stack) ch H H' s.heap s'.heap)(hok:HOk X.prog X.w H' s'.heap)(hg:AllBare s'.gens)
  (hch:∀b∈ch,(b∈X.ex\/X.s₀.heap.objs.size<=b)/\b≠X.env.locals/\(∀x c,X.env.cells.lookup x=some c->c≠b)/\∀p∈X.pn++pins,p.1≠b):Inv X pins σ H' s':=by
 obtain⟨h',g',d',t',o'⟩:=s';have e:o'=s.os:=ho;subst e;exact I.call (g':=g') (t':=t') (d':=d') u hok hg hch
end
noncomputable abbrev XK:=Value->Option Addr->Hp->Prop
noncomputable abbrev St:=List (Option V)
noncomputable abbrev VK:=V->Hp->Prop
noncomputable abbrev TE:=St->Hp->VK->Prop
noncomputable abbrev TT:=St->Hp->(Bool->Hp->Prop)->Prop
noncomputable abbrev TA:=St->Hp->(List V->Hp->Prop)->Prop
structure Ends where
 nx:St->Hp->Prop
 rt:VK
 bk:St->Hp->Prop:=λ_ _=>False
 ct:St->Hp->Prop:=λ_ _=>False
noncomputable abbrev TS:=Ends->St->Hp->Prop
noncomputable def EP(X:Cx)(pins:List (Addr×Obj))(σ:St)(Q:VK)(u:Value)(s':Shared):Prop:=∃v H',Inv X pins σ H' s'/\RelV v u/\Q v H'
noncomputable def TP(X:Cx)(pins:List (Addr×Obj))(σ:St)(Q:Bool->Hp->Prop)(b:Bool)(s':Shared):Prop:=∃H',Inv X pins σ H' s'/\Q b H'
noncomputable def AP(X:Cx)(pins:List (Addr×Obj))(σ:St)(Q:List V->Hp->Prop)(us:List Value)(s':Shared):Prop:=∃vs H',Inv X pins σ H' s'/\Vals vs us/\Q vs H'
noncomputable def SP(X:Cx)(pins:List (Addr×Obj))(D:Ends)(f:Flow)(s':Shared):Prop :=
 match f with
 | .next=>∃σ' H',Inv X pins σ' H' s'/\D.nx σ' H'
 | .brk=>∃σ' H',Inv X pins σ' H' s'/\D.bk σ' H'
 | .cont=>∃σ' H',Inv X pins σ' H' s'/\D.ct σ' H'
 | .ret u=>∃v σ' H',Inv X pins σ' H' s'/\RelV v u/\D.rt v H'
noncomputable def PE(X:Cx)(e:Expr)(t:TE):Prop :=
 ∀(pins:List (Addr×Obj)) (s:Shared) (σ:St) (H:Hp) (Q:VK),Inv X pins σ H s->t σ H Q->wpAny (model X.prog X.w) X.A (eval e X.env) (EP X pins σ Q) X.xe s
noncomputable def PT(X:Cx)(e:Expr)(t:TT):Prop :=
 ∀(pins:List (Addr×Obj)) (s:Shared) (σ:St) (H:Hp) (Q:Bool->Hp->Prop),Inv X pins σ H s->t σ H Q->wpAny (model X.prog X.w) X.A (isTrue e X.env (eval e X.env)) (TP X pins σ Q) X.xe s
noncomputable def PW(X:Cx)(e:Expr)(t:TT):Prop :=
 ∀(whole:Sem Value) (pins:List (Addr×Obj)) (s:Shared) (σ:St) (H:Hp) (Q:Bool->Hp->Prop),Inv X pins σ H s->t σ H Q->wpAny (model X.prog X.w) X.A (isTrue e X.env whole) (TP X pins σ Q) X.xe s
theorem PW.pt{X:Cx}{e:Expr}{t:TT}(h:PW X e t):PT X e t:=h _
noncomputable def PA(X:Cx)(es:List Expr)(t:TA):Prop :=
 ∀(pos:Pos) (pins:List (Addr×Obj)) (s:Shared) (σ:St) (H:Hp) (Q:List V->Hp->Prop),Inv X pins σ H s->t σ H Q->wpAny (model X.prog X.w) X.A (spliced (backTo pos (starEach es X.env))) (AP X pins σ Q) X.xe s
noncomputable def PS(X:Cx)(st:Stmt)(t:TS):Prop :=
 ∀(pins:List (Addr×Obj)) (s:Shared) (σ:St) (H:Hp) (D:Ends),Inv X pins σ H s->t D σ H->wpAny (model X.prog X.w) X.A (exec st X.env) (SP X pins D) X.xe s
noncomputable def PSs(X:Cx)(st:List Stmt)(t:TS):Prop :=
 ∀(pins:List (Addr×Obj)) (s:Shared) (σ:St) (H:Hp) (D:Ends),Inv X pins σ H s->t D σ H->wpAny (model X.prog X.w) X.A (execs st X.env) (SP X pins D) X.xe s
theorem thn{α:Type}{t:Sem α}{Q Q':α->Shared->Prop}{M:Model}{A:Around}{E:Value->Shared->Prop}{s:Shared}(h:wpAny M A t Q E s)(hQ:∀a s,Q a s->Q' a s):wpAny M A t Q' E s:=xAQ h hQ λ_ _ x=>x
end L2
namespace L2
open PySem PySem.Spec PyProof.Rows
section
variable {X:Cx}
theorem bin{a b:Expr}{ta tb:TE}(ha:PE X a ta)(hb:PE X b tb){pins:List (Addr×Obj)}{s:Shared}{σ:St}{H:Hp}{R:V->V->Hp->Prop}(I:Inv X pins σ H s)(h:ta σ H λx H1=>tb σ H1 λy H2=>R x y H2)
  {α:Type} {Q:α->Shared->Prop} {f:Value->Value->Sem α}
  (hf:∀v u s2 x y H2,Inv X pins σ H2 s2->RelV x v->RelV y u->R x y H2->wpAny (model X.prog X.w) X.A (f v u) Q X.xe s2) :
  wpAny (model X.prog X.w) X.A (eval a X.env) (λv s₁=>wpAny (model X.prog X.w) X.A (eval b X.env) (λu s₂=>wpAny (model X.prog X.w) X.A (f v u) Q X.xe s₂) X.xe s₁) X.xe s:=by
 refine thn (ha pins s σ H _ I h) λv s1 ⟨x,H1,I1,r1,q1⟩=>?_
 refine thn (hb pins s1 σ H1 _ I1 q1) λu s2 ⟨y,H2,I2,r2,q2⟩=>?_
 exact hf v u s2 x y H2 I2 r1 r2 q2
noncomputable def tVar(i:Nat):TE:=λσ H Q=>∃v,σ[i]?=some (some v)/\Q v H
noncomputable def tC(v:V):TE:=λ_ H Q=>Q v H
theorem zhL{i:Nat}{x:Str}{pos:Pos}(hN:X.N[i]?=some x)(hv:Vis X.env.scope x)(hd:(x==("__debug__":Str))=false:=by decide)(hcd:(x==("__classdict__":Str))=false:=by decide):PE X (.Name x pos) (tVar i):=by
 intro pins s σ H Q I h;obtain⟨v,e,h⟩:=h;obtain⟨m,hn,hl⟩:=I.loc;obtain⟨u,r,l⟩:=hl i x v hN e hv;have fin:EP X pins σ Q u s:=⟨v,H,I,r,h⟩
 rcases l with⟨hk,hm⟩ |⟨hk,c,hc,hcell⟩
 ·exact wpAny_Name (wpAny_loadName_local I.ok.kind hk hn hm fin) hd
 ·rcases hk with hk|hk
  ·exact wpAny_Name (wpAny_loadName_cell I.ok.kind hk hc hcell fin) hd
  ·exact wpAny_Name (wpAny_loadName_free I.ok.kind hk hc hcell fin hcd) hd
theorem yac{i j pos}:PE X (.Constant (.int i) j pos) (tC (.int i)):=λ_ _ _ H _ I h=>wpAny_Constant_int ⟨.int i,H,I.tok _,⟨_,rfl⟩,h⟩
theorem zgy{b j pos}:PE X (.Constant (.bool b) j pos) (tC (.bl b)):=λ_ _ _ H _ I h=>Constant_bool ⟨.bl b,H,I,rfl,h⟩
theorem zaH{x j pos}:PE X (.Constant (.str x) j pos) (tC (.str x)):=λ_ _ _ H _ I h=>Calls.Constant_str ⟨.str x,H,I.tok _,⟨_,rfl⟩,h⟩
noncomputable def Gl(X:Cx)(x:Str):Prop:=X.env.kindOf x=some .globalImplicit
theorem yfW{E:Value->Shared->Prop}{pins:List (Addr×Obj)}{s:Shared}{σ:St}{H:Hp}{x:Str}{u:Value}{pos:Pos}{Q:Value->Shared->Prop}(I:Inv X pins σ H s)(hg:Gl X x)(hm:X.mg x=some u)(h:Q u s)
  (hd:(x==("__debug__":Str))=false:=by decide):wpAny (model X.prog X.w) X.A (eval (.Name x pos) X.env) Q E s :=
 Calls.Name_function_global I.ok.kind hg (Calls.loadGlobal_global (by rw[I.ok.glob];exact I.mod.glob.keeps I.bk) hm h) hd
theorem ybF{E:Value->Shared->Prop}{pins:List (Addr×Obj)}{s:Shared}{σ:St}{H:Hp}{x:Str}{u:Value}{pos:Pos}{Q:Value->Shared->Prop}(I:Inv X pins σ H s)(hg:Gl X x)(hm:X.mg x=none)(hv:bootBuiltins x=some u)(h:Q u s)
  (hn:x≠"__name__":=by decide) (hd:(x==("__debug__":Str))=false:=by decide):wpAny (model X.prog X.w) X.A (eval (.Name x pos) X.env) Q E s:=by
 obtain⟨mb,h1,h2⟩:=I.mod.blt;exact Calls.Name_function_global I.ok.kind hg (Calls.loadGlobal_builtin (by rw[I.ok.glob];exact I.mod.glob.keeps I.bk) hm (by rw[I.ok.blt];exact h1.keeps I.bk) ((h2 x hn).trans hv) h) hd
theorem yhl{x:Str}{v:V}{u:Value}{pos:Pos}(hg:Gl X x)(hm:X.mg x=some u)(r:RelV v u)(hd:(x==("__debug__":Str))=false:=by decide):PE X (.Name x pos) (tC v) :=
 λ_ _ _ H _ I h=>yfW I hg hm ⟨v,H,I,r,h⟩ hd
noncomputable def t2I(ta tb:TE)(k:Int->Int->Hp->Prop):St->Hp->Prop:=λσ H=>ta σ H λx H1=>tb σ H1 λy H2=>∃i j,x = .int i/\y = .int j/\k i j H2
variable {a b:Expr} {ta tb:TE} {pos:Pos}
noncomputable def PC(X:Cx)(op:CmpOp)(a b:Expr)(t:TE):Prop :=
 ∀(pins:List (Addr×Obj)) (s:Shared) (σ:St) (H:Hp) (Q:VK),Inv X pins σ H s->t σ H Q->
  wpAny (model X.prog X.w) X.A (eval a X.env) (λv s₁=>wpAny (model X.prog X.w) X.A (eval b X.env) (λu s₂=>wpAny (model X.prog X.w) X.A (compareOp op v u) (EP X pins σ Q) X.xe s₂) X.xe s₁) X.xe s
noncomputable def tCmp(p:Int->Int->Bool)(ta tb:TE):TE:=λσ H Q=>t2I ta tb (λi j H2=>Q (.bl (p i j)) H2) σ H
noncomputable abbrev tLt:TE->TE->TE:=tCmp λi j=>decide (i<j)
noncomputable abbrev tLe:TE->TE->TE:=tCmp λi j=>decide (i<=j)
noncomputable abbrev tGt:TE->TE->TE:=tCmp λi j=>decide (j<i)
noncomputable abbrev tGe:TE->TE->TE:=tCmp λi j=>decide (j<=i)
noncomputable abbrev tEqI:TE->TE->TE:=tCmp λi j=>decide (i=j)
noncomputable abbrev tNeI:TE->TE->TE:=tCmp λi j=>!decide (i=j)
noncomputable def tB(t:TE):TT:=λσ H Q=>t σ H λx H1=>∃c,x = .bl c/\Q c H1
theorem pt_cmp{op:CmpOp}{t:TE}(h:PC X op a b t)(h1:behindInMarks op b=false:=by first|exact nobehind _ (by decide) (by decide)|rfl):PT X (.Compare a [op] [b] pos) (tB t):=by
 intro pins s σ H Q I hw;refine wpAny_isTrue_Compare1 (thn (h pins s σ H _ I hw) λv s1 h1=>thn h1 λu s2 h2=>thn h2 λc s3 ⟨x,H1,I1,r1,q1⟩=>?_) h1;obtain⟨d,rfl,q⟩:=q1;cases r1;exact wpAny_truthy_bool ⟨H1,I1,q⟩
theorem yg3{e:Expr}{t:TE}(h:PE X e t)(he:∀whole,isTrue e X.env whole=(do let v <-whole;standAt e.pos;holding [v] (truthy v)):=by intro _;rfl):PT X e (tB t):=by
 intro pins s σ H Q I hw;refine isTrue_plain (thn (h pins s σ H _ I hw) λv s1 ⟨x,H1,I1,r1,q1⟩=>?_) (he _);obtain⟨d,rfl,q⟩:=q1;cases r1;exact wpAny_truthy_bool ⟨H1,I1,q⟩
variable {tA tB':TT} {rest:List Expr}
noncomputable def tAnd(t u:TT):TT:=λσ H Q=>t σ H λc H1=>if c=true then u σ H1 Q else Q false H1
noncomputable def tOr(t u:TT):TT:=λσ H Q=>t σ H λc H1=>if c=true then Q true H1 else u σ H1 Q
noncomputable def tNot(t:TT):TT:=λσ H Q=>t σ H λc H1=>Q (!c) H1
theorem yek(ha:PT X a tA):PW X (.BoolOp .And [a] pos) tA:=by
 intro wh pins s σ H Q I h;refine isTrue_and (thn (ha pins s σ H Q I h) λc s1 e=>?_);cases c with
 |true=>exact isTrue_and_nil e
 |false=>exact e
theorem zdS(ha:PT X a tA):PW X (.BoolOp .Or [a] pos) tA:=by
 intro wh pins s σ H Q I h;refine isTrue_or (thn (ha pins s σ H Q I h) λc s1 e=>?_);cases c with
 |false=>exact isTrue_or_nil e
 |true=>exact e
theorem ygg(ha:PT X a tA)(hb:PW X (.BoolOp .And (b::rest) pos) tB'):PW X (.BoolOp .And (a::b::rest) pos) (tAnd tA tB'):=by
 intro wh pins s σ H Q I h;refine isTrue_and (thn (ha pins s σ H _ I h) λc s1 ⟨H1,I1,q1⟩=>?_);cases c with
 |true=>exact hb wh pins s1 σ H1 Q I1 q1
 |false=>exact⟨H1,I1,q1⟩
theorem zfu(ha:PT X a tA)(hb:PW X (.BoolOp .Or (b::rest) pos) tB'):PW X (.BoolOp .Or (a::b::rest) pos) (tOr tA tB'):=by
 intro wh pins s σ H Q I h;refine isTrue_or (thn (ha pins s σ H _ I h) λc s1 ⟨H1,I1,q1⟩=>?_);cases c with
 |true=>exact⟨H1,I1,q1⟩
 |false=>exact hb wh pins s1 σ H1 Q I1 q1
theorem yhW(ha:PT X a tA):PT X (.UnaryOp .Not a pos) (tNot tA):=by
 intro pins s σ H Q I h;exact isTrue_not (ha pins s σ H (λc H1=>Q (!c) H1) I h)
end
end L2
namespace L2
open PySem PySem.Spec PyProof.Rows
noncomputable def SqL(K:PySem.W.Frag)(H:Hp)(a:Addr)(xs:List V):Prop :=
 Rd H a (.lst xs)\/
  ∃(o:Obj) (its:Array Value) (n:Nat),K.lookup a=some o/\o.cls = .type "list"/\o.dict=none/\o.data = .seq its n/\its.size<=sizeLine/\Vals xs its.toList
noncomputable def SqT(K:PySem.W.Frag)(H:Hp)(a:Addr)(xs:List V):Prop :=
 Rd H a (.tup xs)\/
  ∃(o:Obj) (its:Array Value) (n:Nat),K.lookup a=some o/\o.cls = .type "tuple"/\o.data = .seq its n/\its.size<=sizeLine/\Vals xs its.toList
noncomputable def absV:Value->Option V
 | .none=>some .non
 | .bool b=>some (.bl b)
 | .int i _=>some (.int i)
 | .str x _=>some (.str x)
 | .bytes b _=>some (.byt b)
 | .float b _=>some (.flt b)
 | .ref a=>some (.ref a)
 | .type n=>some (.ty n)
 |_=>none
theorem RelV.abs{x:V}{u:Value}(r:RelV x u):absV u=some x:=by
 cases x with
 |non=>cases r;rfl
 |bl _=>cases r;rfl
 |int _=>obtain⟨t,rfl⟩:=r;rfl
 |str _=>obtain⟨t,rfl⟩:=r;rfl
 |byt _=>obtain⟨t,rfl⟩:=r;rfl
 |flt _=>obtain⟨t,rfl⟩:=r;rfl
 |ref _=>cases r;rfl
 |ty _=>cases r;rfl
theorem RelV.inj{x y:V}{u:Value}(r:RelV x u)(q:RelV y u):x=y:=xAv (r.abs.symm.trans q.abs)
theorem Vals.inj:∀ {xs ys:List V} {us:List Value},Vals xs us->Vals ys us->xs=ys
 |_,_,_,.nil,.nil=>rfl
 |_,_,_,.cons r t,.cons r' t'=>by rw[r.inj r',Vals.inj t t']
section
variable {X:Cx} {pins:List (Addr×Obj)} {σ:St} {H:Hp} {s:Shared} {a:Addr} {xs ys:List V}
theorem SqL.of{K:PySem.W.Frag}(h:H a=some (.lst xs)):SqL K H a xs:=.inl (.inl h)
theorem SqT.of{K:PySem.W.Frag}(h:H a=some (.tup xs)):SqT K H a xs:=.inl (.inl h)
theorem Inv.list(I:Inv X pins σ H s)(h:SqL X.K H a xs):∃its:List Value,Vals xs its/\PlainL s.heap a its.toArray/\xs.length<=sizeLine:=by
 rcases h with h |⟨o,its,n,hk,hc,hd,hs,hz,r⟩
 ·obtain⟨z,its,n,r,e⟩:=h.ok I.hok;exact⟨its,r,⟨_,n,e,rfl,rfl,rfl⟩,z⟩
 ·refine⟨its.toList,r,⟨o,n,I.kIn a o hk,hc,hd,by simpa using hs⟩,?_⟩;have e:=r.length;simp only[xAm]at e;lia
theorem Inv.tuple(I:Inv X pins σ H s)(h:SqT X.K H a xs):∃its:List Value,Vals xs its/\IsTup s.heap a its.toArray/\xs.length<=sizeLine:=by
 rcases h with h |⟨o,its,n,hk,hc,hs,hz,r⟩
 ·obtain⟨z,its,r,p⟩:=h.ok I.hok;exact⟨its,r,p,z⟩
 ·refine⟨its.toList,r,⟨o,I.kIn a o hk,hc,n,by simpa using hs⟩,?_⟩;have e:=r.length;simp only[xAm]at e;lia
theorem Inv.list_inj(I:Inv X pins σ H s)(h:SqL X.K H a xs)(h':SqL X.K H a ys):xs=ys:=by
 obtain⟨its,r,⟨o,n,e,_,_,d⟩,_⟩:=I.list h;obtain⟨its',r',⟨o',n',e',_,_,d'⟩,_⟩:=I.list h';rw[e]at e';cases e';rw[d]at d';injection d' with d1 _;have:its=its':=by simpa using congrArg Array.toList d1
 subst this;exact r.inj r'
theorem Inv.tuple_inj(I:Inv X pins σ H s)(h:SqT X.K H a xs)(h':SqT X.K H a ys):xs=ys:=by
 obtain⟨its,r,⟨o,e,_,n,d⟩,_⟩:=I.tuple h;obtain⟨its',r',⟨o',e',_,n',d'⟩,_⟩:=I.tuple h';rw[e]at e';cases e';rw[d]at d';injection d' with d1 _;have:its=its':=by simpa using congrArg Array.toList d1
 subst this;exact r.inj r'
end
noncomputable abbrev Cx.wish(X:Cx)(E:Value->Shared->Prop):Cx:={ X with xe:=E }
noncomputable abbrev Cx.nox(X:Cx):Cx:=X.wish λ_ _=>False
theorem Cx.Ok.wish{X:Cx}(ok:X.Ok)(E:Value->Shared->Prop):(X.wish E).Ok :=
 ⟨ok.mod,ok.kind,ok.glob,ok.blt,ok.above,ok.inj,ok.has,ok.cab,ok.hd,ok.frames,ok.stk,ok.exf,ok.bs,ok.bsz,ok.noex,ok.exfs,ok.funs,ok.frf⟩
theorem Cx.Ok.unwish{X:Cx}{E:Value->Shared->Prop}(ok:(X.wish E).Ok):X.Ok :=
 ⟨ok.mod,ok.kind,ok.glob,ok.blt,ok.above,ok.inj,ok.has,ok.cab,ok.hd,ok.frames,ok.stk,ok.exf,ok.bs,ok.bsz,ok.noex,ok.exfs,ok.funs,ok.frf⟩
section
variable {X:Cx} {pins:List (Addr×Obj)} {σ:St} {H:Hp} {s:Shared} {E:Value->Shared->Prop}
theorem Inv.wish(I:Inv X pins σ H s)(E:Value->Shared->Prop):Inv (X.wish E) pins σ H s:=⟨I.ok.wish E,I.os,I.bare,I.base,I.loc,I.cell,I.free,I.freeC,I.pin,I.hok,I.len⟩
theorem Inv.unwish(I:Inv (X.wish E) pins σ H s):Inv X pins σ H s:=⟨I.ok.unwish,I.os,I.bare,I.base,I.loc,I.cell,I.free,I.freeC,I.pin,I.hok,I.len⟩
theorem SP.unwish{D:Ends}{f:Flow}{s':Shared}(h:SP (X.wish E) pins D f s'):SP X pins D f s':=by
 cases f with
 |next=>obtain⟨σ',H',I,q⟩:=h;exact⟨σ',H',I.unwish,q⟩
 |brk=>obtain⟨σ',H',I,q⟩:=h;exact⟨σ',H',I.unwish,q⟩
 |cont=>obtain⟨σ',H',I,q⟩:=h;exact⟨σ',H',I.unwish,q⟩
 |ret u=>obtain⟨v,σ',H',I,r,q⟩:=h;exact⟨v,σ',H',I.unwish,r,q⟩
theorem PSs.nox{st:List Stmt}{t:TS}(h:PSs X.nox st t):PSs X st t:=λpins s σ H D I hw=>
 xAQ (h pins s σ H D (I.wish _) hw) (λ_ _ q=>q.unwish) λ_ _ z=>False.elim z
end
section
variable {X:Cx} {st:Stmt} {rest:List Stmt} {t u:TS} {e:Expr} {te:TE} {pos:Pos}
noncomputable def yfr:TS:=λD σ H=>D.nx σ H
noncomputable def tSeq(t u:TS):TS:=λD σ H=>t { D with nx:=u D } σ H
theorem zaw:PSs X [] yfr:=λ_ _ σ H _ I h=>wpAny_execs_nil ⟨σ,H,I,h⟩
theorem zab(h1:PS X st t)(h2:PSs X rest u):PSs X (st::rest) (tSeq t u):=by
 intro pins s σ H D I h;refine wpAny_execs_cons (thn (h1 pins s σ H { D with nx:=u D } I h) λf s1 q=>?_);cases f with
 |next=>
  obtain⟨σ',H',I',q⟩:=q;exact h2 pins s1 σ' H' D I' q
 |ret v=>exact q
 |brk=>exact q
 |cont=>exact q
theorem yad(h1:PS X st t):PSs X [st] t:=by
 intro pins s σ H D I h;refine wpAny_execs_cons (thn (h1 pins s σ H D I h) λf s1 q=>?_);cases f with
 |next=>exact wpAny_execs_nil q
 |ret v=>exact q
 |brk=>exact q
 |cont=>exact q
theorem Inv.quiet{pins:List (Addr×Obj)}{σ:St}{H:Hp}{s:Shared}(I:Inv X pins σ H s):interactive X.env=false:=by simp[interactive,I.ok.kind]
noncomputable def yhL(te:TE):TS:=λD σ H=>te σ H λ_ H1=>D.nx σ H1
theorem ycf(he:PE X e te)(hs:swapsWith e none pos.line X.env=pure false:=by rfl):PS X (.Expr e pos) (yhL te):=by
 intro pins s σ H D I h;exact wpAny_Expr_any (thn (he pins s σ H _ I h) λv s1 ⟨x,H1,I1,r1,q1⟩=>⟨σ,H1,I1,q1⟩) I.quiet hs
noncomputable def tRet(te:TE):TS:=λD σ H=>te σ H D.rt
theorem yaj(he:PE X e te):PS X (.Return (some e) pos) (tRet te):=by
 intro pins s σ H D I h;exact wpAny_Return_some (thn (he pins s σ H _ I h) λv s1 ⟨x,H1,I1,r1,q1⟩=>⟨x,σ,H1,I1,r1,q1⟩)
noncomputable def tIfS(c:TT)(t u:TS):TS:=λD σ H=>c σ H λb H1=>if b=true then t D σ H1 else u D σ H1
theorem za3{c:Expr}{a b:List Stmt}{tc:TT}(hc:PT X c tc)(ha:PSs X a t)(hb:PSs X b u):PS X (.If c a b pos) (tIfS tc t u):=by
 intro pins s σ H D I h;refine wpAny_If (thn (hc pins s σ H _ I h) λd s1 ⟨H1,I1,q1⟩=>?_);cases d with
 |true=>exact ha pins s1 σ H1 D I1 q1
 |false=>exact hb pins s1 σ H1 D I1 q1
end
noncomputable abbrev TG:=V->St->Hp->(St->Hp->Prop)->Prop
noncomputable abbrev TGs:=List V->St->Hp->(St->Hp->Prop)->Prop
noncomputable def PG(X:Cx)(target:Expr)(t:TG):Prop :=
 ∀(pins:List (Addr×Obj)) (s:Shared) (σ:St) (H:Hp) (v:V) (u:Value) (Q:St->Hp->Prop),Inv X pins σ H s->RelV v u->t v σ H Q->
  wpAny (model X.prog X.w) X.A (assign target X.env u) (λ_ s'=>∃σ' H',Inv X pins σ' H' s'/\Q σ' H') X.xe s
noncomputable def PGs(X:Cx)(ts:List Expr)(t:TGs):Prop :=
 ∀(pins:List (Addr×Obj)) (s:Shared) (σ:St) (H:Hp) (vs:List V) (us:List Value) (Q:St->Hp->Prop),Inv X pins σ H s->Vals vs us->t vs σ H Q->
  wpAny (model X.prog X.w) X.A (assignInOrder ((assignEach ts X.env).map (·.2)) us) (λ_ s'=>∃σ' H',Inv X pins σ' H' s'/\Q σ' H') X.xe s
noncomputable abbrev TSet:=V->V->V->Hp->(Hp->Prop)->Prop
noncomputable def PSet(X:Cx)(t:TSet):Prop :=
 ∀(pins:List (Addr×Obj)) (s:Shared) (σ:St) (H:Hp) (o i v:V) (ov iv u:Value) (Q:Hp->Prop),Inv X pins σ H s->RelV o ov->RelV i iv->RelV v u->t o i v H Q->
  wpAny (model X.prog X.w) X.A (setItem ov iv u) (λ_ s'=>∃H',Inv X pins σ H' s'/\Q H') X.xe s
noncomputable abbrev TIp:=V->V->Hp->VK->Prop
noncomputable def PIp(X:Cx)(op:Operator)(t:TIp):Prop :=
 ∀(pins:List (Addr×Obj)) (s:Shared) (σ:St) (H:Hp) (x y:V) (v u:Value) (Q:VK),Inv X pins σ H s->RelV x v->RelV y u->t x y H Q->
  wpAny (model X.prog X.w) X.A (inplaceOp op v u) (EP X pins σ Q) X.xe s
section
variable {X:Cx} {pos:Pos}
noncomputable def yau(i:Nat):TG:=λv σ H Q=>Q (σ.set i (some v)) H
theorem yae{i:Nat}{x:Str}(hN:X.N.Nodup)(hi:X.N[i]?=some x)(hx:Loc X.env.scope x)(hf:X.fn x=true\/X.env.scope.names.lookup x=some .local:=by first|exact .inl rfl|exact .inr rfl|assumption):PG X (.Name x pos) (yau i):=by
 intro pins s σ H v u Q I r h;exact wpAny_assign_Name (yaX I hN hi hx r (λs' I'=>⟨_,H,I',h⟩) hf)
noncomputable def gNil:TGs:=λvs σ H Q=>vs=[]/\Q σ H
noncomputable def zik(t:TG)(u:TGs):TGs:=λvs σ H Q=>∃v r,vs=v::r/\t v σ H λσ' H'=>u r σ' H' Q
theorem zaE:PGs X [] gNil:=by
 intro pins s σ H vs us Q I r h;obtain⟨e,h⟩:=h;subst e;cases r;exact assignInOrder_nil ⟨σ,H,I,h⟩
theorem zah{e:Expr}{es:List Expr}{t:TG}{u:TGs}(h1:PG X e t)(h2:PGs X es u)
  (hs:(assignEach (e::es) X.env).map (·.2)=assign e X.env::(assignEach es X.env).map (·.2):=by rfl):PGs X (e::es) (zik t u):=by
 intro pins s σ H vs us Q I r h;obtain⟨v,vr,e1,h⟩:=h;subst e1;cases r with
 |cons r rr=>
  rw[hs];refine assignInOrder_cons (thn (h1 pins s σ H _ _ _ I r h) λ_ s1 ⟨σ1,H1,I1,q1⟩=>?_);exact h2 pins s1 σ1 H1 _ _ Q I1 rr q1
noncomputable def gTup(K:PySem.W.Frag)(n:Nat)(t:TGs):TG:=λv σ H Q=>∃a xs,v = .ref a/\SqT K H a xs/\xs.length=n/\t xs σ H Q
theorem za2{es:List Expr}{k:Nat}{t:TGs}{n:Nat}(hc:X.calm=true)(h:PGs X es t)
  (hn:(assignEach es X.env).length=n:=by rfl) (hst:(assignEach es X.env).findIdx? (·.1)=none:=by rfl):PG X (.Tuple es k pos) (gTup X.K n t):=by
 intro pins s σ H v u Q I r hw;obtain⟨a,xs,e1,hq,hl,hw⟩:=hw;subst e1;cases r;obtain⟨its,rv,ht,hz⟩:=I.tuple hq;refine assign_Tuple_tuple (I.ok.hd hc) ht (by simp[hn,<-hl,rv.length]) hst λh' hx=>?_
 have I1:Inv X pins σ H { s with heap:=h' }:=I.kept (t':=s.toks) λb o e=>hx b o (xAF (xAd e)) e
 exact h pins _ σ H xs _ Q I1 (by simpa using rv) hw
noncomputable def gSub(to ti:TE)(t:TSet):TG:=λv σ H Q=>to σ H λo H1=>ti σ H1 λi H2=>t o i v H2 λH3=>Q σ H3
theorem zb5{o i:Expr}{to ti:TE}{t:TSet}(ho:PE X o to)(hi:PE X i ti)(hs:PSet X t)
  (ha:∀v,assign (.Subscript o i pos) X.env v=(do
   let ov <-holding [v] (eval o X.env)
   let iv <-holding [v,ov] (eval i X.env)
   standAt pos
   holding [v,ov,iv] (setItem ov iv v)
   release [v,ov,iv] []):=by intro _;rfl):PG X (.Subscript o i pos) (gSub to ti t):=by
 intro pins s σ H v u Q I r h;rw[ha];refine xA1 (xBf (thn (ho pins s σ H _ I h) λov s1 ⟨x,H1,I1,r1,q1⟩=>?_));refine xA1 (xBf (thn (hi pins s1 σ H1 _ I1 q1) λiv s2 ⟨y,H2,I2,r2,q2⟩=>?_));refine xA1 (wpAny_standAt (xA1 (xBf (thn (hs pins s2 σ H2 x y v ov iv u _ I2 r1 r2 r q2) λ_ s3 ⟨H3,I3,q3⟩=>?_))));exact wpAny_release ⟨σ,H3,I3,q3⟩
noncomputable def tAsg(te:TE)(g:TG):TS:=λD σ H=>te σ H λx H1=>g x σ H1 D.nx
theorem yaU{tg e:Expr}{te:TE}{g:TG}(he:PE X e te)(hg:PG X tg g)(hs:swapsWithSole [tg] e pos.line X.env=pure false:=by rfl)(hw:swappedStores [tg] e X.env=pure none:=by rfl)
  (h1:(assignEach [tg] X.env).map (·.2)=[assign tg X.env]:=by rfl):PS X (.Assign [tg] e pos) (tAsg te g):=by
 intro pins s σ H D I h;refine wpAny_Assign_stores (thn (he pins s σ H _ I h) λv s1 ⟨x,H1,I1,r1,q1⟩=>?_) hs hw;rw[h1];exact thn (hg pins s1 σ H1 x v _ I1 r1 q1) λ_ s2 q=>q
theorem zag{i:Nat}{x:Str}{e:Expr}{te:TE}{pos':Pos}(hN:X.N.Nodup)(hi:X.N[i]?=some x)(hx:Loc X.env.scope x)(he:PE X e te)(hs:swapsWith e (some (.Name x pos')) pos.line X.env=pure false:=by rfl)(hf:X.fn x=true\/X.env.scope.names.lookup x=some .local:=by first|exact .inl rfl|exact .inr rfl|assumption) :
  PS X (.Assign [.Name x pos'] e pos) (tAsg te (yau i)):=by
 intro pins s σ H D I h;refine wpAny_Assign_Name (thn (he pins s σ H _ I h) λv s1 ⟨y,H1,I1,r1,q1⟩=>?_) hs;exact yaX I1 hN hi hx r1 (λs2 I2=>⟨_,H1,I2,q1⟩) hf
noncomputable def tPar(i j:Nat)(ta:TA):TS:=λD σ H=>ta σ H λvs H1=>∃v w,vs=[v,w]/\D.nx ((σ.set i (some v)).set j (some w)) H1
theorem ybS{i j:Nat}{x y:Str}{a b:Expr}{ta:TA}{px py pt:Pos}{kt k2 pt2}(hc:X.calm=true)(hN:X.N.Nodup)(hi:X.N[i]?=some x)(hj:X.N[j]?=some y)(hij:i≠j)
  (hx:X.env.scope.names.lookup x=some .local) (hy:X.env.scope.names.lookup y=some .local) (ha:PA X [a,b] ta)
  (hw:swappedStores [.Tuple [.Name x px,.Name y py] kt pt] (.Tuple [a,b] k2 pt2) X.env=pure (some [x,y]))
  (hs:swapsWithSole [.Tuple [.Name x px,.Name y py] kt pt] (.Tuple [a,b] k2 pt2) pos.line X.env=pure false:=by rfl) :
  PS X (.Assign [.Tuple [.Name x px,.Name y py] kt pt] (.Tuple [a,b] k2 pt2) pos) (tPar i j ta):=by
 intro pins s σ H D I h;rw[exec_Assign_arm];refine xA1 (wpAny_standAt ?_);rw[hs];refine xA1 (xA3 ?_);rw[if_neg (by decide)];refine xA1 (Tuple_ (thn (ha _ pins s σ H _ I h) λus s1 ⟨vs,H1,I1,r1,q1⟩=>?_));obtain⟨v,w,e1,q1⟩:=q1;subst e1;obtain⟨u1,u2,rfl,rv,rw'⟩:∃u1 u2,us=[u1,u2]/\RelV v u1/\RelV w u2:=by
  cases r1 with
  |cons p q=>
   cases q with
   |cons p' q'=>
    cases q';exact⟨_,_,rfl,p,p'⟩
 refine xAN ?_ (by show 2<=sizeLine;decide);have I2:Inv X pins σ H1 { s1 with heap:=s1.heap.push { cls:=.type "tuple",data:=.seq [u1,u2].toArray } }:=I1.kept (t':=s1.toks) λb o e=>xA2 _ e
 rw[hw];refine xA1 (xA3 ?_);show wpAny (model X.prog X.w) X.A (do rule "assign.swapped-stores";let items <-unpackItems (.ref s1.heap.objs.size) 2 none;assignInOrder [λv=>bindName X.env y v,λv=>bindName X.env x v] items.reverse;pure Flow.next) _ _ _;refine xA1 (xB9 (xA1 (unpackItems_tuple (items:=#[u1,u2]) (I.ok.hd hc) (IsTup.new s1.heap _) λh' hx'=>?_)));have I3:=I2.kept (h':=h') (t':=s1.toks) λb o e=>hx' b o (xAF (xAd e)) e
 show wpAny _ _ (assignInOrder [λv=>bindName X.env y v,λv=>bindName X.env x v] [u2,u1] >>= λ_=>pure Flow.next) _ _ _;refine xA1 (assignInOrder_cons (wpAny_bindName (yaX I3 hN hj (.inl hy) rw' (λs2 I4=>?_) (.inr hy))));refine assignInOrder_cons (wpAny_bindName (yaX I4 hN hi (.inl hx) rv (λs3 I5=>assignInOrder_nil (xA3 ?_)) (.inr hx)));rw[List.set_comm _ _ (Ne.symm hij)]at I5;exact⟨_,H1,I5,q1⟩
noncomputable def tAug(i:Nat)(te:TE)(ti:TIp):TS:=λD σ H=>∃x,σ[i]?=some (some x)/\te σ H λy H1=>ti x y H1 λz H2=>D.nx (σ.set i (some z)) H2
theorem zbA{i:Nat}{x:Str}{e:Expr}{te:TE}{op:Operator}{ti:TIp}{pos':Pos}(hN:X.N.Nodup)(hi:X.N[i]?=some x)(hx:Loc X.env.scope x)(he:PE X e te)(ho:PIp X op ti)(hf:X.fn x=true\/X.env.scope.names.lookup x=some .local:=by first|exact .inl rfl|exact .inr rfl|assumption) :
  PS X (.AugAssign (.Name x pos') op e pos) (tAug i te ti):=by
 intro pins s σ H D I h;obtain⟨v,e1,h⟩:=h;obtain⟨m,hn,hl⟩:=I.loc;have vis:Vis X.env.scope x:=by rcases hx with k|k;exact .inl k;exact .inr (.inl k)
 obtain⟨u,r,l⟩:=hl i x v hi e1 vis;refine wpAny_AugAssign_Name ?_;have go:wpAny (model X.prog X.w) X.A (eval e X.env) (λw s₂=>wpAny (model X.prog X.w) X.A (inplaceOp op u w) (λr s₃=>wpAny (model X.prog X.w) X.A (storeName X.env x r) (λ_=>SP X pins D .next) X.xe s₃) X.xe s₂) X.xe s:=by
  refine thn (he pins s σ H _ I h) λw s1 ⟨y,H1,I1,r1,q1⟩=>?_
  refine thn (ho pins s1 σ H1 v y u w _ I1 r r1 q1) λz s2 ⟨zv,H2,I2,r2,q2⟩=>?_
  exact yaX I2 hN hi hx r2 (λs3 I3=>⟨_,H2,I3,q2⟩) hf
 rcases l with⟨hk,hm⟩ |⟨hk,c,hc,hcell⟩
 ·exact wpAny_loadName_local I.ok.kind hk hn hm go
 ·rcases hk with hk|hk
  ·exact wpAny_loadName_cell I.ok.kind hk hc hcell go
  ·rcases hx with k|k
   ·have:X.env.scope.names.lookup x=some .free:=hk;rw[k]at this;cases this
   ·have:X.env.scope.names.lookup x=some .free:=hk;rw[k]at this;cases this
noncomputable def yii(to ti te:TE)(tget:V->V->Hp->VK->Prop)(tip:TIp)(tset:TSet):TS:=λD σ H=>to σ H λo H1=>ti σ H1 λi H2=>tget o i H2 λx H3=>te σ H3 λy H4=>tip x y H4 λz H5=>tset o i z H5 λH6=>D.nx σ H6
noncomputable def PGet(X:Cx)(t:V->V->Hp->VK->Prop):Prop :=
 ∀(pins:List (Addr×Obj)) (s:Shared) (σ:St) (H:Hp) (o i:V) (ov iv:Value) (Q:VK),Inv X pins σ H s->RelV o ov->RelV i iv->t o i H Q->
  wpAny (model X.prog X.w) X.A (getItem ov iv) (EP X pins σ Q) X.xe s
theorem yg7{o i e:Expr}{to ti te:TE}{tget:V->V->Hp->VK->Prop}{tip:TIp}{tset:TSet}{op:Operator}{tpos:Pos}(ho:PE X o to)(hi:PE X i ti)(hg:PGet X tget)(he:PE X e te)(hp:PIp X op tip)(hs:PSet X tset)
  (ha:∀ov iv new,augStore i ov iv new=(do holding [new,ov,iv] (setItem ov iv new);release [new,ov,iv] [];pure .next):=by intros;rfl):PS X (.AugAssign (.Subscript o i tpos) op e pos) (yii to ti te tget tip tset):=by
 intro pins s σ H D I h;refine wpAny_AugAssign_SubscriptAny (thn (ho pins s σ H _ I h) λov s1 ⟨x1,H1,I1,r1,q1⟩=>?_) ha;refine thn (hi pins s1 σ H1 _ I1 q1) λiv s2 ⟨x2,H2,I2,r2,q2⟩=>?_
 refine thn (hg pins s2 σ H2 x1 x2 ov iv _ I2 r1 r2 q2) λold s3 ⟨x3,H3,I3,r3,q3⟩=>?_
 refine thn (he pins s3 σ H3 _ I3 q3) λv s4 ⟨x4,H4,I4,r4,q4⟩=>?_
 refine thn (hp pins s4 σ H4 x3 x4 old v _ I4 r3 r4 q4) λnew s5 ⟨x5,H5,I5,r5,q5⟩=>?_
 exact thn (hs pins s5 σ H5 x1 x2 x5 ov iv new _ I5 r1 r2 r5 q5) λ_ s6 ⟨H6,I6,q6⟩=>⟨σ,H6,I6,q6⟩
end
section
variable {X:Cx} {pos:Pos}
noncomputable def zg5(c:TT)(tb:TS):TS:=λD σ H=>∃W:Nat->St->Hp->Prop,(∃m,W m σ H)/\∀m σ H,W m σ H->
 c σ H λb H1=>if b=true then ∃N:St->Hp->Prop,(∀σ' H',N σ' H'->∃m',m'<m/\W m' σ' H')/\tb { D with nx:=N,ct:=N,bk:=D.nx } σ H1 else D.nx σ H1
theorem yaL{c:Expr}{body:List Stmt}{tc:TT}{tb:TS}(hp:PassesOwn (model X.prog X.w) X.A X.env X.xe)(hc:PT X c tc)(hb:PSs X body tb):PS X (.While c body [] pos) (zg5 tc tb):=by
 intro pins s σ H D I h;obtain⟨W,⟨m0,w0⟩,turn⟩:=h;refine wpAny_While (codeAny_whileLoop (λn s'=>∃σ' H',Inv X pins σ' H' s'/\W n σ' H') ?_ m0 ⟨σ,H,I,w0⟩);rintro n s1 ⟨σ1,H1,I1,w1⟩;refine wpAny_passesOwn hp (thn (hc pins s1 σ1 H1 _ I1 (turn n σ1 H1 w1)) λb s2 ⟨H2,I2,q2⟩=>?_);cases b with
 |true=>
  obtain⟨N,hN,q2⟩:=q2;rw[if_pos rfl];refine wpAny_passesOwn hp (thn (hb pins s2 σ1 H2 _ I2 q2) λf s3 q3=>?_);cases f with
  |next=>
   obtain⟨σ3,H3,I3,n3⟩:=q3;obtain⟨m',hm,w3⟩:=hN σ3 H3 n3;exact⟨m',hm,σ3,H3,I3,w3⟩
  |cont=>
   obtain⟨σ3,H3,I3,n3⟩:=q3;obtain⟨m',hm,w3⟩:=hN σ3 H3 n3;exact⟨m',hm,σ3,H3,I3,w3⟩
  |brk=>exact q3
  |ret v=>exact q3
 |false=>
  rw[if_neg xAo];exact wpAny_execs_nil ⟨σ1,H2,I2,q2⟩
end
structure It where
 go:Nat->Hp->Prop
 yld:Nat->Hp->V->Hp->Prop
 stop:Nat->Hp->Prop
noncomputable def FpOk(X:Cx)(pins:List (Addr×Obj))(H:Hp)(b:Addr):Prop :=
 H b=none/\b≠X.env.locals/\b∉X.fs/\(b∈X.ex\/X.s₀.heap.objs.size<=b)/\(∀x c,X.env.cells.lookup x=some c->c≠b)/\∀p∈X.pn++pins,p.1≠b
theorem Inv.fpOk{X:Cx}{pins:List (Addr×Obj)}{σ:St}{H H':Hp}{s:Shared}{b:Addr}(I:Inv X pins σ H s)(hb:s.heap.objs.size<=b)(hn:H' b=none):FpOk X pins H' b:=by
 refine⟨hn,Nat.ne_of_gt (xAz I.lt hb),I.nofs hb,.inr (xAB I.sz hb),λx c e z=>?_,λp hp z=>?_⟩
 ·obtain⟨v,q⟩:=I.cell x c e;exact absurd (xAz q.lt (by rw[z];exact hb)) (Nat.lt_irrefl _)
 ·exact absurd (xAz (xAd (I.pin p hp).1) (by rw[z];exact hb)) (Nat.lt_irrefl _)
structure Turn(P:Program)(w:World)(K:PySem.W.Frag)(tg:Expr)(J:It)(fp:List Addr)(it:Addr)(tn:Nat->Heap->Prop):Prop where
 mem:it∈fp
 obj:∀i h,tn i h->∀b∈fp,∃o,h.get? b=some o/\∀v,o.data≠.cell v
 keep:∀i h h',tn i h->(∀b∈fp,∀o,h.get? b=some o->h'.get? b=some o)->tn i h'
 item:∀(X:Cx),X.prog=P->X.w=w->X.K=K->X.calm=true->∀(i:Nat) (pins:List (Addr×Obj)) (s:Shared) (σ:St) (H:Hp) (E:Value->Shared->Prop),Inv X pins σ H s->(∀b∈fp,FpOk X pins H b)->tn i s.heap->J.go i H->
  wpAny (model P w) X.A (pyNext (.ref it)) (λr s1=>∃u,r=some u/\
   wpAny (model P w) X.A (letOwnedTupleGo tg (.ref it) u) (λ_ s2=>∃x H',Inv X pins σ H' s2/\RelV x u/\J.yld i H x H'/\tn (i+1) s2.heap/\∀b∈fp,H' b=none) E s1) E s
 done:∀(X:Cx),X.prog=P->X.w=w->X.K=K->X.calm=true->∀(i:Nat) (pins:List (Addr×Obj)) (s:Shared) (σ:St) (H:Hp) (E:Value->Shared->Prop),Inv X pins σ H s->(∀b∈fp,FpOk X pins H b)->tn i s.heap->J.stop i H->
  wpAny (model P w) X.A (pyNext (.ref it)) (λr s1=>r=none/\Inv X pins σ H s1) E s
 self:∀(A:Around) (i:Nat) (s:Shared) (Q:Value->Shared->Prop) (E:Value->Shared->Prop),tn i s.heap->Q (.ref it) s->wpAny (model P w) A (pyIter (.ref it)) Q E s
noncomputable abbrev TI:=St->Hp->(It->Hp->Prop)->Prop
noncomputable def PIE(X:Cx)(pins:List (Addr×Obj))(σ:St)(tg:Expr)(R:It->Hp->Prop)(itv:Value)(s2:Shared):Prop :=
 ∃(it:Addr) (fp:List Addr) (tn:Nat->Heap->Prop) (J:It) (H':Hp),itv = .ref it/\Inv X pins σ H' s2/\Turn X.prog X.w X.K tg J fp it tn/\tn 0 s2.heap/\(∀b∈fp,FpOk X pins H' b)/\R J H'
noncomputable def PI(X:Cx)(tg iter:Expr)(wi:TI):Prop :=
 ∀(pins:List (Addr×Obj)) (s:Shared) (σ:St) (H:Hp) (R:It->Hp->Prop),Inv X pins σ H s->wi σ H R->
  wpAny (model X.prog X.w) X.A (eval iter X.env) (λv s1=>wpAny (model X.prog X.w) X.A (pyIter v) (PIE X pins σ tg R) X.xe s1) X.xe s
theorem zgs{M:Model}{A:Around}{E:Value->Shared->Prop}{s:Shared}{tg:Expr}{it:Addr}{u:Value}{o:Obj}{n:String}{vs:Array Value}{Q:Unit->Shared->Prop}(ho:s.heap.get? it=some o)(hc:o.cls = .type n)(hd:o.data = .fields vs)
  (hn:["enumerate","zip","dict_itemiterator","dict_reverseitemiterator","odict_iterator","itertools.zip_longest","itertools.pairwise"].contains n=false) (hQ:Q () s):wpAny M A (letOwnedTupleGo tg (.ref it) u) Q E s:=by
 unfold letOwnedTupleGo;cases tg <;> first
  |exact xA3 hQ
  |(cases u <;> first
    |exact xA3 hQ
    |(refine xA1 (wpAny_load ho ?_)
      rw[hc,hd];show wpAny M A (if (["enumerate","zip","dict_itemiterator","dict_reverseitemiterator","odict_iterator","itertools.zip_longest","itertools.pairwise"].contains n&&vs[0]?==some (rawInt _))=true then _ else _) Q E s;rw[if_neg (by intro h;rw[hn,Bool.false_and]at h;cases h)];exact xA3 hQ))
noncomputable def Itl(K:PySem.W.Frag)(a:Addr):It :=
 ⟨λi H=>∃xs x,SqL K H a xs/\xs[i]?=some x,λi H x H'=>H'=H/\∀xs,SqL K H a xs->xs[i]?=some x,λi H=>∃xs,SqL K H a xs/\xs.length<=i⟩
noncomputable def Itt(K:PySem.W.Frag)(a:Addr):It :=
 ⟨λi H=>∃xs x,SqT K H a xs/\xs[i]?=some x,λi H x H'=>H'=H/\∀xs,SqT K H a xs->xs[i]?=some x,λi H=>∃xs,SqT K H a xs/\xs.length<=i⟩
noncomputable def Itr(lo:Int)(n:Nat):It:=⟨λi _=>i<n,λi H x H'=>H'=H/\x = .int (lo+i),λi _=>n<=i⟩
theorem yfT{P:Program}{w:World}{K:PySem.W.Frag}{tg:Expr}(a it:Addr):Turn P w K tg (Itl K a) [it] it (λi h=>h.IsListIter it a i) where
 mem:=by simp
 obj:=λi h st b hb=>by
  have e:b=it:=by simpa using hb
  subst e;obtain⟨o,e,c,d⟩:=st;exact⟨o,e,λv z=>by rw[d]at z;cases z⟩
 keep:=λi h h' st k=>st.at λo e=>k it (by simp) o e
 item:=by
  intro X hP hw hK hc i pins s σ H E I hf st hg;subst hP hw hK;obtain⟨xs,x,hq,hx⟩:=hg;obtain⟨its,rv,p,hz⟩:=I.list hq;obtain⟨u,hu,ru⟩:=rv.get hx;obtain⟨f0,f1,f2,f3,f4,f5⟩:=hf it (by simp);refine wpAny_pyNext_list_item st p.isList (x:=u) (by simpa using hu) λh' st' sb=>?_
  have I1:Inv X pins σ H { s with heap:=h' }:=I.turned (t':=s.toks) (λb o hb e=>(sb.2 b hb).trans e) f0 f1 f3 f4 f5;obtain⟨o,e,c,d⟩:=id st';exact⟨u,rfl,zgs (s:={ s with heap:=h' }) e c d (by decide) ⟨x,H,I1,ru,⟨rfl,λys hy=>by rw[I.list_inj hy hq];exact hx⟩,st',λb hb=>(hf b hb).1⟩⟩
 done:=by
  intro X hP hw hK hc i pins s σ H E I hf st hg;subst hP hw hK;obtain⟨xs,hq,hx⟩:=hg;obtain⟨its,rv,p,hz⟩:=I.list hq;obtain⟨f0,f1,f2,f3,f4,f5⟩:=hf it (by simp);have hl:=rv.length;exact wpAny_pyNext_list_end (I.ok.hd hc) st p.isList (by simp;lia) λh' eb=>⟨rfl,I.turned (t':=s.toks) (λb o hb e=>eb b o hb e) f0 f1 f3 f4 f5⟩
 self:=λ_ _ _ _ _ st h=>wpAny_pyIter_listiter st h
theorem yfj{P:Program}{w:World}{K:PySem.W.Frag}{tg:Expr}(a it:Addr):Turn P w K tg (Itt K a) [it] it (λi h=>h.IsTupleIter it a i) where
 mem:=by simp
 obj:=λi h st b hb=>by
  have e:b=it:=by simpa using hb
  subst e;obtain⟨o,e,c,d⟩:=st;exact⟨o,e,λv z=>by rw[d]at z;cases z⟩
 keep:=λi h h' st k=>st.at λo e=>k it (by simp) o e
 item:=by
  intro X hP hw hK hc i pins s σ H E I hf st hg;subst hP hw hK;obtain⟨xs,x,hq,hx⟩:=hg;obtain⟨its,rv,p,hz⟩:=I.tuple hq;obtain⟨u,hu,ru⟩:=rv.get hx;obtain⟨f0,f1,f2,f3,f4,f5⟩:=hf it (by simp);refine wpAny_pyNext_tuple_item st (show s.heap.IsTuple a its.toArray from p) (x:=u) (by simpa using hu) λh' st' sb=>?_
  have I1:Inv X pins σ H { s with heap:=h' }:=I.turned (t':=s.toks) (λb o hb e=>(sb.2 b hb).trans e) f0 f1 f3 f4 f5;obtain⟨o,e,c,d⟩:=id st';exact⟨u,rfl,zgs (s:={ s with heap:=h' }) e c d (by decide) ⟨x,H,I1,ru,⟨rfl,λys hy=>by rw[I.tuple_inj hy hq];exact hx⟩,st',λb hb=>(hf b hb).1⟩⟩
 done:=by
  intro X hP hw hK hc i pins s σ H E I hf st hg;subst hP hw hK;obtain⟨xs,hq,hx⟩:=hg;obtain⟨its,rv,p,hz⟩:=I.tuple hq;obtain⟨f0,f1,f2,f3,f4,f5⟩:=hf it (by simp);have hl:=rv.length;exact wpAny_pyNext_tuple_end (I.ok.hd hc) st (show s.heap.IsTuple a its.toArray from p) (by simp;lia) λh' eb=>⟨rfl,I.turned (t':=s.toks) (λb o hb e=>eb b o hb e) f0 f1 f3 f4 f5⟩
 self:=λ_ _ _ _ _ st h=>wpAny_pyIter_tupleiter st h
theorem ye6{P:Program}{w:World}{K:PySem.W.Frag}{tg:Expr}(it:Addr)(lo:Int)(n:Nat):Turn P w K tg (Itr lo n) [it] it (λi h=>IsRangeIter h it (lo+(i:Nat)*1) ((n:Int)-(i:Nat)) 1) where
 mem:=by simp
 obj:=λi h st b hb=>by
  have e:b=it:=by simpa using hb
  subst e;exact⟨_,st,λv z=>by
   have z':Data.fields _=Data.cell v:=z;cases z'⟩
 keep:=λi h h' st k=>k it (by simp) _ st
 item:=by
  intro X hP hw hK hc i pins s σ H E I hf st hg;subst hP hw hK;obtain⟨f0,f1,f2,f3,f4,f5⟩:=hf it (by simp);have W:=Walks.range (prog:=X.prog) (w:=X.w) (I.ok.hd hc) it lo 1 n;refine W.item i s _ _ hg st λv h' tk hv st' kk=>?_
  obtain⟨t,rfl⟩:=hv;have I1:Inv X pins σ H { s with heap:=h',toks:=tk }:=I.turned (λb o hb e=>kk b o (by simpa using hb) e) f0 f1 f3 f4 f5;refine⟨_,rfl,zgs (s:={ s with heap:=h',toks:=tk }) (n:="range_iterator") st' rfl rfl (by decide) ⟨.int (lo+i),H,I1,⟨t,?_⟩,⟨rfl,rfl⟩,st',λb hb=>(hf b hb).1⟩⟩;rw[Int.mul_one]
 done:=by
  intro X hP hw hK hc i pins s σ H E I hf st hg;subst hP hw hK;obtain⟨f0,f1,f2,f3,f4,f5⟩:=hf it (by simp);exact wpAny_pyNext_range_end (I.ok.hd hc) st (by have:n<=i:=hg;lia) λh' eb=>⟨rfl,I.turned (t':=s.toks) (λb o hb e=>eb b o hb e) f0 f1 f3 f4 f5⟩
 self:=λ_ _ _ _ _ st h=>wpAny_pyIter_rangeiter st h
end L2
namespace L2
open PySem PySem.Spec PyProof.Rows
section
variable {X:Cx} {tg:Expr}
noncomputable def yhD(K:PySem.W.Frag)(tl:TE):TI:=λσ H R=>tl σ H λx H1=>∃a,x = .ref a/\(∃xs,SqL K H1 a xs)/\R (Itl K a) H1
noncomputable def iTup(K:PySem.W.Frag)(tl:TE):TI:=λσ H R=>tl σ H λx H1=>∃a,x = .ref a/\(∃xs,SqT K H1 a xs)/\R (Itt K a) H1
theorem yaN{l:Expr}{tl:TE}(hl:PE X l tl):PI X tg l (yhD X.K tl):=by
 intro pins s σ H R I h;refine thn (hl pins s σ H _ I h) λv s1 ⟨x,H1,I1,r1,q1⟩=>?_
 obtain⟨a,e,⟨xs,hq⟩,q⟩:=q1;subst e;cases r1;obtain⟨its,rv,p,hz⟩:=I1.list hq;refine wpAny_pyIter_list p.isList ?_;refine⟨s1.heap.objs.size,[s1.heap.objs.size],_,_,H1,rfl,I1.kept (t':=s1.toks) λb o e=>xA2 _ e,yfT a _,⟨_,xA6 _ rfl,rfl,rfl⟩,λb hb=>?_,q⟩;have e:b=s1.heap.objs.size:=by simpa using hb
 subst e;exact I1.fpOk (xA4 _) (I1.hok.fresh (xA4 _))
theorem ycG{l:Expr}{tl:TE}(hl:PE X l tl):PI X tg l (iTup X.K tl):=by
 intro pins s σ H R I h;refine thn (hl pins s σ H _ I h) λv s1 ⟨x,H1,I1,r1,q1⟩=>?_
 obtain⟨a,e,⟨xs,hq⟩,q⟩:=q1;subst e;cases r1;obtain⟨its,rv,p,hz⟩:=I1.tuple hq;refine wpAny_pyIter_tuple (show s1.heap.IsTuple a its.toArray from p) ?_;refine⟨s1.heap.objs.size,[s1.heap.objs.size],_,_,H1,rfl,I1.kept (t':=s1.toks) λb o e=>xA2 _ e,yfj a _,⟨_,xA6 _ rfl,rfl,rfl⟩,λb hb=>?_,q⟩;have e:b=s1.heap.objs.size:=by simpa using hb
 subst e;exact I1.fpOk (xA4 _) (I1.hok.fresh (xA4 _))
theorem ze1{pins:List (Addr×Obj)}{σ:St}{H:Hp}{s:Shared}{R:It->Hp->Prop}{E:Value->Shared->Prop}{lo hi:Int}{t u v:Tok}{tk:Nat}(I:Inv X pins σ H s)(h1 : -(2^62)<=lo)(h2:lo<2^62)(h3 : -(2^62)<=hi)(h4:hi<2^62)
  (q:R (Itr lo (hi-lo).toNat) H):wpAny (model X.prog X.w) X.A (pyIter (.ref s.heap.objs.size)) (PIE X pins σ tg R) E { s with heap:=s.heap.push { cls:=.type "range",data:=.fields #[.int lo t,.int hi u,.int 1 v] },toks:=tk }:=by
 refine wpAny_pyIter_range (IsRange.new ..) (small_one h1 h2 h3 h4) ?_;have I1:Inv X pins σ H { s with heap:=s.heap.push { cls:=.type "range",data:=.fields #[.int lo t,.int hi u,.int 1 v] },toks:=tk }:=I.kept λb o e=>xA2 _ e
 refine⟨(s.heap.push { cls:=.type "range",data:=.fields #[.int lo t,.int hi u,.int 1 v] }).objs.size,[(s.heap.push { cls:=.type "range",data:=.fields #[.int lo t,.int hi u,.int 1 v] }).objs.size],_,_,H,rfl,
  I1.kept (t':=tk) λb o e=>xA2 _ e,ye6 _ lo (hi-lo).toNat,?_,λb hb=>?_,q⟩
 ·have e1:lo+((0:Nat):Int)*1=lo:=by simp
  have e2:(((hi-lo).toNat:Nat):Int)-((0:Nat):Int)=Builtin.Range.rangeSize lo hi 1:=by rw[rangeSize_one];split <;> lia
  show IsRangeIter _ _ (lo+((0:Nat):Int)*1) ((((hi-lo).toNat:Nat):Int)-((0:Nat):Int)) 1;rw[e1,e2];exact xA6 _ rfl
 ·have e:b=(s.heap.push { cls:=.type "range",data:=.fields #[.int lo t,.int hi u,.int 1 v] }).objs.size:=by simpa using hb
  subst e;exact I1.fpOk (xA4 _) (I1.hok.fresh (xA4 _))
noncomputable def zir(ta:TA):TI:=λσ H R=>ta σ H λvs H1=>∃j:Int,vs=[.int j]/\-(2^62)<=j/\j<2^62/\R (Itr 0 j.toNat) H1
noncomputable def zid(ta:TA):TI:=λσ H R=>ta σ H λvs H1=>∃i j:Int,vs=[.int i,.int j]/\(-(2^62)<=i/\i<2^62/\-(2^62)<=j/\j<2^62)/\R (Itr i (j-i).toNat) H1
theorem yaK{a:Expr}{ta:TA}{p pos:Pos}(hg:Gl X "range")(hm:X.mg "range"=none)(ha:PA X [a] ta)(hs:starEach [a] X.env=[(false,eval a X.env)]:=by rfl):PI X tg (.Call (.Name "range" p) [a] [] pos) (zir ta):=by
 intro pins s σ H R I h;refine Call_ (ybF I hg hm boot_range (xAY (thn (ha pos pins s σ H _ I h) λus s1 ⟨vs,H1,I1,r1,q1⟩=>?_) hs rfl));obtain⟨j,e,q1,q2,q⟩:=q1;subst e;cases r1 with
 |cons r rr=>
  cases rr;obtain⟨t,rfl⟩:=r;exact call_range_1 (ze1 I1 (by lia) (by lia) q1 q2 (by simpa using q))
theorem yb2{a b:Expr}{ta:TA}{p pos:Pos}(hg:Gl X "range")(hm:X.mg "range"=none)(ha:PA X [a,b] ta)(hs:starEach [a,b] X.env=[(false,eval a X.env),(false,eval b X.env)]:=by rfl)(hs2:starEach [b] X.env=[(false,eval b X.env)]:=by rfl) :
  PI X tg (.Call (.Name "range" p) [a,b] [] pos) (zid ta):=by
 intro pins s σ H R I h;refine Call_ (ybF I hg hm boot_range (xAY (thn (ha pos pins s σ H _ I h) λus s1 ⟨vs,H1,I1,r1,q1⟩=>?_) (by rw[hs,hs2]) (by rw[hs2];rfl)));obtain⟨i,j,e,⟨q1,q2,q3,q4⟩,q⟩:=q1;subst e;cases r1 with
 |cons r rr=>
  cases rr with
  |cons r' rr=>
   cases rr;obtain⟨t,rfl⟩:=r;obtain⟨t',rfl⟩:=r';exact call_range_2 (ze1 I1 q1 q2 q3 q4 q)
noncomputable def tFor(wi:TI)(g:TG)(tb:TS):TS:=λD σ H=>wi σ H λJ H1=>∃W:Nat->Nat->St->Hp->Prop,(∃m,W 0 m σ H1)/\∀i m σ H,W i m σ H->
 (J.stop i H/\D.nx σ H)\/(J.go i H/\∃N:St->Hp->Prop,(∀σ' H',N σ' H'->∃m',m'<m/\W (i+1) m' σ' H')/\∀x H',J.yld i H x H'->g x σ H' λσ2 H2=>tb { D with nx:=N,ct:=N,bk:=D.nx } σ2 H2)
noncomputable def zcm(fp:List Addr)(h:Heap):List (Addr×Obj):=fp.filterMap λb=>(h.get? b).map λo=>(b,o)
theorem ya5{fp:List Addr}{h:Heap}{b:Addr}{o:Obj}(hb:b∈fp)(e:h.get? b=some o):(b,o)∈zcm fp h:=List.mem_filterMap.mpr ⟨b,hb,by rw[e];rfl⟩
theorem yd6{fp:List Addr}{h:Heap}{p:Addr×Obj}(hp:p∈zcm fp h):p.1∈fp/\h.get? p.1=some p.2:=by
 obtain⟨b,hb,e⟩:=List.mem_filterMap.mp hp;cases q:h.get? b with
 |none=>rw[q]at e;cases e
 |some o=>
  rw[q]at e;have e':(b,o)=p:=xAv e;subst e';exact⟨hb,q⟩
theorem Inv.pinned{pins:List (Addr×Obj)}{σ:St}{H:Hp}{s:Shared}{fp:List Addr}(I:Inv X pins σ H s)(hf:∀b∈fp,FpOk X pins H b)(ho:∀b∈fp,∃o,s.heap.get? b=some o/\∀v,o.data≠.cell v):Inv X (pins++zcm fp s.heap) σ H s :=
 I.pins_of λp hp=>(xAE.mp hp).elim (λz=>I.pin p (xAc _ z)) λz=>by
  obtain⟨hb,e⟩:=yd6 z;obtain⟨f0,f1,f2,_⟩:=hf p.1 hb;obtain⟨o,e',d⟩:=ho p.1 hb;rw[e]at e';cases e';exact⟨e,f0,f1,f2,d⟩
theorem Inv.unpinned{pins pl:List (Addr×Obj)}{σ:St}{H:Hp}{s:Shared}(I:Inv X (pins++pl) σ H s):Inv X pins σ H s:=I.pins_of λp hp=>I.pin p (xAc _ (xAK _ hp))
theorem yaC{iter:Expr}{body:List Stmt}{wi:TI}{g:TG}{tb:TS}{pos:Pos}(hp:PassesOwn (model X.prog X.w) X.A X.env X.xe)(hc:X.calm=true)(hi:PI X tg iter wi)(hg:PG X tg g)(hb:PSs X body tb)
  (hs:∀x,foldedSetIterable iter X.env x=pure x:=by intro _;rfl):PS X (.For tg iter body [] pos) (tFor wi g tb):=by
 intro pins s σ H D I h;refine wpAny_For (thn (hi pins s σ H _ I h) λv s1 h1=>thn h1 λitv s2 h2=>?_) hs;obtain⟨it,fp,tn,J,H2,e,I2,T,st2,f2,W,⟨m0,w0⟩,turn⟩:=h2;subst e;have stat:∀ {H':Hp},(∀b∈fp,H' b=none)->∀b∈fp,FpOk X pins H' b:=λhn b hb=>⟨hn b hb,(f2 b hb).2⟩
 refine codeAny_forLoop_any (λn s'=>∃i σ' H',Inv X pins σ' H' s'/\tn i s'.heap/\(∀b∈fp,H' b=none)/\W i n σ' H') ?_ m0 ⟨0,σ,H2,I2,st2,λb hb=>(f2 b hb).1,w0⟩;rintro n s3 ⟨i,σ3,H3,I3,st3,fr3,w3⟩;rcases turn i n σ3 H3 w3 with⟨stop,qn⟩ |⟨go,N,hN,step⟩
 ·refine wpAny_passesOwn hp (thn (T.done X rfl rfl rfl hc i pins s3 σ3 H3 X.xe I3 (stat fr3) st3 stop) λr s4 ⟨hr,I4⟩=>?_);subst hr;exact wpAny_execs_nil ⟨σ3,H3,I4,qn⟩
 ·refine wpAny_passesOwn hp (thn (T.item X rfl rfl rfl hc i pins s3 σ3 H3 X.xe I3 (stat fr3) st3 go) λr s4 ⟨u,hr,h4⟩=>?_);subst hr;refine wpAny_passesOwn hp (thn h4 λ_ s5 ⟨x,H5,I5,r5,y5,st5,fr5⟩=>?_);have I5':=I5.pinned (stat fr5) (T.obj _ _ st5);refine wpAny_passesOwn hp (thn (hg _ s5 σ3 H5 x u _ I5' r5 (step x H5 y5)) λ_ s6 ⟨σ6,H6,I6,q6⟩=>?_);refine wpAny_passesOwn hp (thn (hb _ s6 σ6 H6 _ I6 q6) λf s7 q7=>?_);have again:∀ {σ7:St} {H7:Hp},Inv X (pins++zcm fp s5.heap) σ7 H7 s7->N σ7 H7->∃m,m<n/\∃i σ' H',Inv X pins σ' H' s7/\tn i s7.heap/\(∀b∈fp,H' b=none)/\W i m σ' H':=λ{σ7 H7} I7 n7=>by
   obtain⟨m',hm,w7⟩:=hN σ7 H7 n7;refine⟨m',hm,i+1,σ7,H7,I7.unpinned,T.keep _ _ _ st5 λb hb o e=>(I7.pin (b,o) (xAc _ (xAc _ (ya5 hb e)))).1,λb hb=>?_,w7⟩;obtain⟨o,e,d⟩:=T.obj _ _ st5 b hb;exact(I7.pin (b,o) (xAc _ (xAc _ (ya5 hb e)))).2.1
  cases f with
  |next=>obtain⟨σ7,H7,I7,n7⟩:=q7;exact again I7 n7
  |cont=>obtain⟨σ7,H7,I7,n7⟩:=q7;exact again I7 n7
  |brk=>obtain⟨σ7,H7,I7,q7⟩:=q7;exact⟨σ7,H7,I7.unpinned,q7⟩
  |ret v=>obtain⟨x7,σ7,H7,I7,r7,q7⟩:=q7;exact⟨x7,σ7,H7,I7.unpinned,r7,q7⟩
end
theorem ydD{K:PySem.W.Frag}{a:Addr}{xs:List V}{g:TG}{tb:TS}{D:Ends}{σ:St}{H:Hp}(Pv:Nat->St->Hp->Prop)(h0:Pv 0 σ H)(hl:∀i σ H,i<=xs.length->Pv i σ H->SqL K H a xs)
  (hs:∀i x σ H,xs[i]?=some x->Pv i σ H->g x σ H λσ2 H2=>tb { D with nx:=Pv (i+1),ct:=Pv (i+1),bk:=D.nx } σ2 H2) (hd:∀σ H,Pv xs.length σ H->D.nx σ H) :
  ∃W:Nat->Nat->St->Hp->Prop,(∃m,W 0 m σ H)/\∀i m σ H,W i m σ H->
   ((Itl K a).stop i H/\D.nx σ H)\/((Itl K a).go i H/\∃N:St->Hp->Prop,(∀σ' H',N σ' H'->∃m',m'<m/\W (i+1) m' σ' H')/\∀x H',(Itl K a).yld i H x H'->g x σ H' λσ2 H2=>tb { D with nx:=N,ct:=N,bk:=D.nx } σ2 H2):=by
 refine⟨λi m σ H=>m=xs.length-i/\i<=xs.length/\Pv i σ H,⟨xs.length,by simp,xB7 _,h0⟩,?_⟩;rintro i m σ H ⟨rfl,hi,p⟩;have q:=hl i σ H hi p;by_cases hlt:i<xs.length
 ·refine .inr ⟨⟨xs,xs[i],q,by simp[hlt]⟩,Pv (i+1),λσ' H' p'=>⟨xs.length-(i+1),by lia,rfl,hlt,p'⟩,λx H' y=>?_⟩;obtain⟨e,y⟩:=y;subst e;exact hs i x σ _ (y xs q) p
 ·have e:i=xs.length:=by lia
  subst e;exact .inl ⟨⟨xs,q,xA4 _⟩,hd σ H p⟩
theorem zaR{lo:Int}{n:Nat}{g:TG}{tb:TS}{D:Ends}{σ:St}{H:Hp}(Pv:Nat->St->Hp->Prop)(h0:Pv 0 σ H)
  (hs:∀i σ H,i<n->Pv i σ H->g (.int (lo+i)) σ H λσ2 H2=>tb { D with nx:=Pv (i+1),ct:=Pv (i+1),bk:=D.nx } σ2 H2) (hd:∀σ H,Pv n σ H->D.nx σ H) :
  ∃W:Nat->Nat->St->Hp->Prop,(∃m,W 0 m σ H)/\∀i m σ H,W i m σ H->
   ((Itr lo n).stop i H/\D.nx σ H)\/((Itr lo n).go i H/\∃N:St->Hp->Prop,(∀σ' H',N σ' H'->∃m',m'<m/\W (i+1) m' σ' H')/\∀x H',(Itr lo n).yld i H x H'->g x σ H' λσ2 H2=>tb { D with nx:=N,ct:=N,bk:=D.nx } σ2 H2):=by
 refine⟨λi m σ H=>m=n-i/\i<=n/\Pv i σ H,⟨n,by simp,xB7 _,h0⟩,?_⟩;rintro i m σ H ⟨rfl,hi,p⟩;by_cases hlt:i<n
 ·refine .inr ⟨hlt,Pv (i+1),λσ' H' p'=>⟨n-(i+1),by lia,rfl,hlt,p'⟩,λx H' y=>?_⟩;obtain⟨e,y⟩:=y;subst e y;exact hs i σ _ hlt p
 ·have e:i=n:=by lia
  subst e;exact .inl ⟨xA4 _,hd σ H p⟩
end L2
namespace L2
open PySem PySem.Spec PyProof.Rows
noncomputable abbrev R2:=V->V->Hp->VK->Prop
noncomputable def OpR(X:Cx)(f:Value->Value->Sem Value)(r:R2):Prop :=
 ∀(pins:List (Addr×Obj)) (s:Shared) (σ:St) (H:Hp) (x y:V) (v u:Value) (Q:VK),Inv X pins σ H s->RelV x v->RelV y u->r x y H Q->
  wpAny (model X.prog X.w) X.A (f v u) (EP X pins σ Q) X.xe s
noncomputable def UnR(X:Cx)(f:Value->Sem Value)(r:V->Hp->VK->Prop):Prop :=
 ∀(pins:List (Addr×Obj)) (s:Shared) (σ:St) (H:Hp) (x:V) (v:Value) (Q:VK),Inv X pins σ H s->RelV x v->r x H Q->
  wpAny (model X.prog X.w) X.A (f v) (EP X pins σ Q) X.xe s
noncomputable def zbR(X:Cx)(f:Value)(r:List V->Hp->VK->Prop):Prop :=
 ∀(pins:List (Addr×Obj)) (s:Shared) (σ:St) (H:Hp) (xs:List V) (us:List Value) (Q:VK),Inv X pins σ H s->Vals xs us->r xs H Q->
  wpAny (model X.prog X.w) X.A (call f us) (EP X pins σ Q) X.xe s
noncomputable def tOp(r:R2)(ta tb:TE):TE:=λσ H Q=>ta σ H λx H1=>tb σ H1 λy H2=>r x y H2 Q
noncomputable def tUn(r:V->Hp->VK->Prop)(ta:TE):TE:=λσ H Q=>ta σ H λx H1=>r x H1 Q
noncomputable def rI(C:Int->Int->Prop)(g:Int->Int->V):R2:=λx y H Q=>∃i j,x = .int i/\y = .int j/\C i j/\Q (g i j) H
noncomputable def rI0(g:Int->Int->V):R2:=λx y H Q=>∃i j,x = .int i/\y = .int j/\Q (g i j) H
noncomputable def rU(g:Int->V):V->Hp->VK->Prop:=λx H Q=>∃i,x = .int i/\Q (g i) H
section
variable {X:Cx} {a b c:Expr} {ta tb tc:TE} {pos:Pos}
theorem binT(ha:PE X a ta)(hb:PE X b tb){pins:List (Addr×Obj)}{s:Shared}{σ:St}{H:Hp}{R:V->V->Hp->Prop}(I:Inv X pins σ H s)
  (h:ta σ H λx H1=>tb σ H1 λy H2=>R x y H2) {Q:Value->Shared->Prop} {f:Value->Value->Sem Value}
  (hf:∀v u s2 x y H2,Inv X pins σ H2 s2->RelV x v->RelV y u->R x y H2->wpAny (model X.prog X.w) X.A (f v u) Q X.xe s2) :
  wpAny (model X.prog X.w) X.A (eval a X.env) (λv s₁=>wpAny (model X.prog X.w) X.A (eval b X.env) (λu s₂=>wpAny (model X.prog X.w) X.A (f v u) Q X.xe s₂) X.xe s₁) X.xe s:=by
 refine thn (ha pins s σ H _ I h) λv s1 ⟨x,H1,I1,r1,q1⟩=>?_
 refine thn (hb pins s1 σ H1 _ I1 q1) λu s2 ⟨y,H2,I2,r2,q2⟩=>?_
 exact hf v u s2 x y H2 I2 r1 r2 q2
theorem zaf{op:Operator}{r:R2}(ho:OpR X (binaryOp op) r)(ha:PE X a ta)(hb:PE X b tb):PE X (.BinOp a op b pos) (tOp r ta tb):=by
 intro pins s σ H Q I h;exact wpAny_BinOp (binT ha hb I h λv u s2 x y H2 I2 rx ry q=>ho pins s2 σ H2 x y v u Q I2 rx ry q)
theorem zfJ{op:UnaryOp}{r:V->Hp->VK->Prop}(ho:UnR X (unaryOp op) r)(ha:PE X a ta):PE X (.UnaryOp op a pos) (tUn r ta):=by
 intro pins s σ H Q I h;exact UnaryOp_ (thn (ha pins s σ H _ I h) λv s1 ⟨x,H1,I1,r1,q1⟩=>ho pins s1 σ H1 x v Q I1 r1 q1)
theorem opI{f:Value->Value->Sem Value}{C:Int->Int->Prop}{g:Int->Int->Int}
  (rule:∀(i j:Int) (t u:Tok) (s:Shared) (Q:Value->Shared->Prop) (E:Value->Shared->Prop),C i j->Q (.int (g i j) s.toks) { s with toks:=s.toks+1 }->wpAny (model X.prog X.w) X.A (f (.int i t) (.int j u)) Q E s) :
  OpR X f (rI C λi j=>.int (g i j)):=by
 intro pins s σ H x y v u Q I rx ry h;obtain⟨i,j,rfl,rfl,hc,q⟩:=h;obtain⟨t,rfl⟩:=rx;obtain⟨t',rfl⟩:=ry;exact rule i j t t' s _ _ hc ⟨.int (g i j),H,I.tok _,⟨_,rfl⟩,q⟩
theorem opI0{f:Value->Value->Sem Value}{g:Int->Int->Int}
  (rule:∀(i j:Int) (t u:Tok) (s:Shared) (Q:Value->Shared->Prop) (E:Value->Shared->Prop),Q (.int (g i j) s.toks) { s with toks:=s.toks+1 }->wpAny (model X.prog X.w) X.A (f (.int i t) (.int j u)) Q E s) :
  OpR X f (rI0 λi j=>.int (g i j)):=by
 intro pins s σ H x y v u Q I rx ry h;obtain⟨i,j,rfl,rfl,q⟩:=h;obtain⟨t,rfl⟩:=rx;obtain⟨t',rfl⟩:=ry;exact rule i j t t' s _ _ ⟨.int (g i j),H,I.tok _,⟨_,rfl⟩,q⟩
theorem opB0{f:Value->Value->Sem Value}{g:Int->Int->Bool}
  (rule:∀(i j:Int) (t u:Tok) (s:Shared) (Q:Value->Shared->Prop) (E:Value->Shared->Prop),Q (.bool (g i j)) s->wpAny (model X.prog X.w) X.A (f (.int i t) (.int j u)) Q E s) :
  OpR X f (rI0 λi j=>.bl (g i j)):=by
 intro pins s σ H x y v u Q I rx ry h;obtain⟨i,j,rfl,rfl,q⟩:=h;obtain⟨t,rfl⟩:=rx;obtain⟨t',rfl⟩:=ry;exact rule i j t t' s _ _ ⟨.bl (g i j),H,I,rfl,q⟩
noncomputable def CPow(i j:Int):Prop:=0<=j/\j<=1000000/\i.natAbs<2^64
noncomputable def CMul(i j:Int):Prop:=(-(2^64)<i/\i<2^64)\/(-(2^64)<j/\j<2^64)
theorem CMul.ok{i j:Int}(h:CMul i j):IntMulOk i j:=by
 rcases h with⟨h1,h2⟩ |⟨h1,h2⟩
 ·exact .of_left (intBits_le_64 h1 h2)
 ·exact .of_right (intBits_le_64 h1 h2)
theorem zau:OpR X (binaryOp .Add) (rI0 λi j=>.int (i+j)):=opI0 λ_ _ _ _ _ _ _ q=>add_int q
theorem yaG:OpR X (binaryOp .Sub) (rI0 λi j=>.int (i-j)):=opI0 λ_ _ _ _ _ _ _ q=>sub_int q
theorem zaU:OpR X (binaryOp .Mult) (rI CMul λi j=>.int (i*j)):=opI λ_ _ _ _ _ _ _ hc q=>mul_int q hc.ok
theorem yaz:OpR X (binaryOp .Mod) (rI (λ_ j=>0<j) λi j=>.int (i%j)):=opI λi j _ _ _ _ _ hc q=>by
 have h1:(0:Int)<j:=hc;exact mod_int' (by lia) (by rw[Int.fmod_eq_emod_of_nonneg i (by lia)];exact q)
theorem yeJ:OpR X (binaryOp .Pow) (rI CPow λi j=>.int (i^j.toNat)):=opI λ_ _ _ _ _ _ _ hc q=>pow_int_small hc.1 hc.2.1 hc.2.2 q
theorem zhY:OpR X (binaryOp .BitXor) (rI0 λi j=>.int (Builtin.bitXor i j)):=opI0 λ_ _ _ _ _ _ _ q=>xor_int q
theorem zds:OpR X (inplaceOp .Add) (rI0 λi j=>.int (i+j)):=opI0 λ_ _ _ _ _ _ _ q=>iadd_int q
theorem zhl:OpR X (inplaceOp .Sub) (rI0 λi j=>.int (i-j)):=opI0 λ_ _ _ _ _ _ _ q=>isub_int q
theorem yex:OpR X (inplaceOp .Mult) (rI CMul λi j=>.int (i*j)):=opI λ_ _ _ _ _ _ _ hc q=>imul_int q hc.ok
theorem unI{f:Value->Sem Value}{g:Int->Int}
  (rule:∀(i:Int) (t:Tok) (s:Shared) (Q:Value->Shared->Prop) (E:Value->Shared->Prop),Q (.int (g i) s.toks) { s with toks:=s.toks+1 }->wpAny (model X.prog X.w) X.A (f (.int i t)) Q E s) :
  UnR X f (rU λi=>.int (g i)):=by
 intro pins s σ H x v Q I rx h;obtain⟨i,rfl,q⟩:=h;obtain⟨t,rfl⟩:=rx;exact rule i t s _ _ ⟨.int (g i),H,I.tok _,⟨_,rfl⟩,q⟩
theorem zdW:UnR X (unaryOp .USub) (rU λi=>.int (-i)):=unI λ_ _ _ _ _ q=>neg_int q
end
noncomputable def scal:V->V->Bool
 | .non,.non=>true | .non,.int _=>true | .int _,.non=>true | .non,.bl _=>true | .bl _,.non=>true | .non,.str _=>true | .str _,.non=>true
 | .int _,.int _=>true | .bl _,.bl _=>true | .str _,.str _=>true | .byt _,.byt _=>true
 | .int _,.str _=>true | .str _,.int _=>true | .bl _,.str _=>true | .str _,.bl _=>true
 |_,_=>false
noncomputable def rEq:R2:=λx y H Q=>scal x y=true/\Q (.bl (decide (x=y))) H
noncomputable def rNe:R2:=λx y H Q=>scal x y=true/\Q (.bl (!decide (x=y))) H
theorem yf5{i j:Int}:decide (V.int i=V.int j)=(i==j):=by
 rw[Bool.eq_iff_iff];simp
theorem zg2{i j:Bool}:decide (V.bl i=V.bl j)=(i==j):=by
 rw[Bool.eq_iff_iff];simp
theorem zfO{i j:Str}:decide (V.str i=V.str j)=(i==j):=by
 rw[Bool.eq_iff_iff];simp
theorem yfF{i j:Array UInt8}:decide (V.byt i=V.byt j)=(i.toList==j.toList):=by
 rw[Bool.eq_iff_iff];cases i;cases j;simp
section
variable {X:Cx} {a b c:Expr} {ta tb tc:TE} {pos:Pos}
theorem yaw{pins:List (Addr×Obj)}{σ:St}{H:Hp}{s:Shared}{Q:VK}{k k':Bool}(I:Inv X pins σ H s)(q:Q (.bl k) H)(e:k=k'):EP X pins σ Q (.bool k') s:=by
 subst e;exact⟨.bl k,H,I,rfl,q⟩
theorem ya9:OpR X (compareOp .Eq) rEq:=by
 intro pins s σ H x y v u Q I rx ry h;obtain⟨hs,q⟩:=h;cases x with
 |non=>
  cases rx;cases y with
  |non=>cases ry;exact PySem.EqNone.eq_none_none (yaw I q (by simp))
  |bl j=>cases ry;exact PySem.EqNone.eq_none_bool (yaw I q (by simp))
  |int j=>obtain⟨t',rfl⟩:=ry;exact PySem.EqNone.eq_none_int (yaw I q (by simp))
  |str j=>obtain⟨t',rfl⟩:=ry;exact PySem.EqNone.eq_none_str (yaw I q (by simp))
  |_=>exact absurd (show false=true from hs) xAo
 |bl i=>
  cases rx;cases y with
  |non=>cases ry;exact PySem.EqNone.eq_bool_none (yaw I q (by simp))
  |bl j=>cases ry;exact eq_bool (yaw I q zg2)
  |str j=>obtain⟨t',rfl⟩:=ry;exact PySem.EqMixed.eq_bool_str (yaw I q (by simp))
  |_=>exact absurd (show false=true from hs) xAo
 |int i=>
  obtain⟨t,rfl⟩:=rx;cases y with
  |non=>cases ry;exact PySem.EqNone.eq_int_none (yaw I q (by simp))
  |int j=>obtain⟨t',rfl⟩:=ry;exact eq_int (yaw I q yf5)
  |str j=>obtain⟨t',rfl⟩:=ry;exact PySem.EqMixed.eq_int_str (yaw I q (by simp))
  |_=>exact absurd (show false=true from hs) xAo
 |str i=>
  obtain⟨t,rfl⟩:=rx;cases y with
  |non=>cases ry;exact PySem.EqNone.eq_str_none (yaw I q (by simp))
  |bl j=>cases ry;exact PySem.EqMixed.eq_str_bool (yaw I q (by simp))
  |int j=>obtain⟨t',rfl⟩:=ry;exact PySem.EqMixed.eq_str_int (yaw I q (by simp))
  |str j=>obtain⟨t',rfl⟩:=ry;exact eq_str (yaw I q zfO)
  |_=>exact absurd (show false=true from hs) xAo
 |byt i=>
  obtain⟨t,rfl⟩:=rx;cases y with
  |byt j=>obtain⟨t',rfl⟩:=ry;exact PySem.W.eq_bytes (yaw I q yfF)
  |_=>exact absurd (show false=true from hs) xAo
 |_=>cases y <;> exact absurd (show false=true from hs) xAo
theorem zd5:OpR X (compareOp .NotEq) rNe:=by
 intro pins s σ H x y v u Q I rx ry h;obtain⟨hs,q⟩:=h;cases x with
 |non=>
  cases rx;cases y with
  |non=>cases ry;exact PySem.EqNone.ne_none_none (yaw I q (by simp))
  |bl j=>cases ry;exact PySem.EqNone.ne_none_bool (yaw I q (by simp))
  |int j=>obtain⟨t',rfl⟩:=ry;exact PySem.EqNone.ne_none_int (yaw I q (by simp))
  |str j=>obtain⟨t',rfl⟩:=ry;exact PySem.EqNone.ne_none_str (yaw I q (by simp))
  |_=>exact absurd (show false=true from hs) xAo
 |bl i=>
  cases rx;cases y with
  |non=>cases ry;exact PySem.EqNone.ne_bool_none (yaw I q (by simp))
  |bl j=>cases ry;exact ne_bool (yaw I q (congrArg not zg2))
  |str j=>obtain⟨t',rfl⟩:=ry;exact PySem.EqMixed.ne_bool_str (yaw I q (by simp))
  |_=>exact absurd (show false=true from hs) xAo
 |int i=>
  obtain⟨t,rfl⟩:=rx;cases y with
  |non=>cases ry;exact PySem.EqNone.ne_int_none (yaw I q (by simp))
  |int j=>obtain⟨t',rfl⟩:=ry;exact ne_int (yaw I q (congrArg not yf5))
  |str j=>obtain⟨t',rfl⟩:=ry;exact PySem.EqMixed.ne_int_str (yaw I q (by simp))
  |_=>exact absurd (show false=true from hs) xAo
 |str i=>
  obtain⟨t,rfl⟩:=rx;cases y with
  |non=>cases ry;exact PySem.EqNone.ne_str_none (yaw I q (by simp))
  |bl j=>cases ry;exact PySem.EqMixed.ne_str_bool (yaw I q (by simp))
  |int j=>obtain⟨t',rfl⟩:=ry;exact PySem.EqMixed.ne_str_int (yaw I q (by simp))
  |str j=>obtain⟨t',rfl⟩:=ry;exact ne_str (yaw I q (congrArg not zfO))
  |_=>exact absurd (show false=true from hs) xAo
 |byt i=>
  obtain⟨t,rfl⟩:=rx;cases y with
  |byt j=>obtain⟨t',rfl⟩:=ry;exact PySem.W.ne_bytes (yaw I q (congrArg not yfF))
  |_=>exact absurd (show false=true from hs) xAo
 |_=>cases y <;> exact absurd (show false=true from hs) xAo
theorem yhR:OpR X (compareOp .Lt) (rI0 λi j=>.bl (decide (i<j))):=opB0 λ_ _ _ _ _ _ _ q=>lt_int q
theorem yiq:OpR X (compareOp .LtE) (rI0 λi j=>.bl (decide (i<=j))):=opB0 λ_ _ _ _ _ _ _ q=>le_int q
theorem ybU:OpR X (compareOp .Gt) (rI0 λi j=>.bl (decide (j<i))):=opB0 λ_ _ _ _ _ _ _ q=>gt_int q
theorem yic:OpR X (compareOp .GtE) (rI0 λi j=>.bl (decide (j<=i))):=opB0 λ_ _ _ _ _ _ _ q=>ge_int q
theorem yak(b:Expr){op:CmpOp}(h:op≠.In:=by decide)(h2:op≠.NotIn:=by decide):behindInMarks op b=false:=by
 have e1:(op==CmpOp.In)=false:=by cases op <;> first|rfl|exact absurd rfl h
 have e2:(op==CmpOp.NotIn)=false:=by cases op <;> first|rfl|exact absurd rfl h2
 cases b <;> simp[behindInMarks,e1,e2]
theorem ydi{op:CmpOp}{r:R2}(ho:OpR X (compareOp op) r)(ha:PE X a ta)(hb:PE X b tb)(hm:behindInMarks op b=false):PE X (.Compare a [op] [b] pos) (tOp r ta tb):=by
 intro pins s σ H Q I h;exact wpAny_Compare1 (binT ha hb I h λv u s2 x y H2 I2 rx ry q=>ho pins s2 σ H2 x y v u Q I2 rx ry q) hm
noncomputable def yip(t:TE):TT:=λσ H Q=>t σ H λx H'=>∃k,x = .bl k/\Q k H'
theorem zai{op:CmpOp}{r:R2}(ho:OpR X (compareOp op) r)(ha:PE X a ta)(hb:PE X b tb)(hm:behindInMarks op b=false):PT X (.Compare a [op] [b] pos) (yip (tOp r ta tb)):=by
 intro pins s σ H Q I h;refine wpAny_isTrue_Compare1 (thn (ha pins s σ H _ I h) λv s1 ⟨x,H1,I1,r1,q1⟩=>thn (hb pins s1 σ H1 _ I1 q1) λu s2 ⟨y,H2,I2,r2,q2⟩=>
  thn (ho pins s2 σ H2 x y v u _ I2 r1 r2 q2) λc s3 ⟨z,H3,I3,r3,k,e,q3⟩=>?_) hm
 subst e;cases r3;exact wpAny_truthy_bool ⟨H3,I3,q3⟩
theorem yd1:(sizeLine:Nat)<2^63:=by rw[sizeLine_eq];decide
theorem ycg{x:V}{us:List Value}(r:Vals [x] us):∃u,us=[u]/\RelV x u:=by
 cases r with
 |cons r1 r2=>cases r2;exact⟨_,rfl,r1⟩
theorem yhS{x y:V}{us:List Value}(r:Vals [x,y] us):∃u w',us=[u,w']/\RelV x u/\RelV y w':=by
 cases r with
 |cons r1 r2=>
  cases r2 with
  |cons r3 r4=>cases r4;exact⟨_,_,rfl,r1,r3⟩
theorem zeZ:zbR X (.builtin "abs") (λxs H Q=>∃i,xs=[.int i]/\Q (.int (if i<0 then -i else i)) H):=by
 intro pins s σ H xs us Q I r h;obtain⟨i,rfl,q⟩:=h;obtain⟨u,rfl,t,rfl⟩:=ycg r;exact call_abs_int λu tk=>⟨.int (if i<0 then -i else i),H,I.tok _,⟨_,rfl⟩,q⟩
theorem zf4(hc:X.calm=true):zbR X (.builtin "max") (λxs H Q=>∃i j,xs=[.int i,.int j]/\Q (.int (if j>i then j else i)) H):=by
 intro pins s σ H xs us Q I r h;obtain⟨i,j,rfl,q⟩:=h;obtain⟨u,w',rfl,⟨t,rfl⟩,⟨t',rfl⟩⟩:=yhS r;refine max_two_ints (I.ok.hd hc) λh' tk k=>⟨_,H,I.kept k,?_,q⟩
 by_cases hj:j>i
 ·rw[if_pos hj,if_pos hj];exact⟨_,rfl⟩
 ·rw[if_neg hj,if_neg hj];exact⟨_,rfl⟩
theorem ygi(hc:X.calm=true):zbR X (.builtin "min") (λxs H Q=>∃i j,xs=[.int i,.int j]/\Q (.int (if j<i then j else i)) H):=by
 intro pins s σ H xs us Q I r h;obtain⟨i,j,rfl,q⟩:=h;obtain⟨u,w',rfl,⟨t,rfl⟩,⟨t',rfl⟩⟩:=yhS r;refine min_two_ints (I.ok.hd hc) λh' tk k=>⟨_,H,I.kept k,?_,q⟩
 by_cases hj:j<i
 ·rw[if_pos hj,if_pos hj];exact⟨_,rfl⟩
 ·rw[if_neg hj,if_neg hj];exact⟨_,rfl⟩
theorem ycL:zbR X (.type "int") (λxs H Q=>(∃i,xs=[.int i]/\Q (.int i) H)\/∃k,xs=[.bl k]/\Q (.int (if k then 1 else 0)) H):=by
 intro pins s σ H xs us Q I r h;rcases h with⟨i,rfl,q⟩ |⟨k,rfl,q⟩
 ·obtain⟨u,rfl,t,rfl⟩:=ycg r;exact call_int_int ⟨.int i,H,I,⟨_,rfl⟩,q⟩
 ·obtain⟨u,rfl,r1⟩:=ycg r;cases r1;exact call_int_bool ⟨.int (if k then 1 else 0),H,I.tok _,⟨_,rfl⟩,q⟩
end
end L2
namespace L2
open PySem PySem.Spec PyProof.Rows
structure ObjM(h:Heap)(x dx C:Addr)(mA:Str->Option Value):Prop where
 obj:h.get? x=some (PySem.W.instObj C dx)
 ns:h.Ns1 dx mA
 ne:dx≠x
section
variable {prog:Program} {w:World} {A:Around} {E:Value->Shared->Prop} {s:Shared} {K:PySem.W.Frag} {x dx C f:Addr} {mA:Str->Option Value} {name:Str} {v:Value}
end
theorem RelO.some_of{v:V}{o:Option Value}(r:RelO (some v) o):∃u,o=some u/\RelV v u:=by
 cases o with
 |none=>exact(show False from r).elim
 |some u=>exact⟨u,rfl,r⟩
section
variable {P:Program} {w:World} {H H':Hp} {h h':Heap} {a C dx:Addr} {fs fs':List (Str×V)}
end
structure Cls(K:PySem.W.Frag)(C:Addr):Prop where
 pg:PySem.W.plainGet K C Str.empty=true
 hd:PySem.W.hasDictIn K C=true
 po:PySem.W.plainOver K C=true
 sa:PySem.W.findIn K (.ref C) "__setattr__"=some (some (.builtin "object.__setattr__"))
structure Con(K:PySem.W.Frag)(C:Addr)(f:Str)(v:V)(u:Value):Prop where
 at_:PySem.W.findIn K (.ref C) f=some (some u)
 rel:RelV v u
 get:PySem.W.specialIn K u "__get__"=some none
 cp:PySem.W.copiedNames.contains f=false
structure Meth(K:PySem.W.Frag)(C:Addr)(m:Str)(f:Addr):Prop where
 at_:PySem.W.findIn K (.ref C) m=some (some (.ref f))
 fn:PySem.W.isFn K (.ref f)=true
 kp:PySem.W.keepIn K (.ref f)=true
section
variable {X:Cx} {pins:List (Addr×Obj)} {σ:St} {H:Hp} {s:Shared} {a C dx:Addr} {fs:List (Str×V)} {f:Str} {v:V} {A:Around} {E:Value->Shared->Prop}
end
section
variable {X:Cx} {o e value:Expr} {f:Str} {pos pos' tpos:Pos} {ta tv:TE}
end
section
variable {X:Cx} {pins:List (Addr×Obj)} {σ:St} {H:Hp} {s:Shared} {A:Around} {E:Value->Shared->Prop} {Q:Value->Shared->Prop} {c:Value} {b:Bool}
inductive TyOf (K:PySem.W.Frag) (H:Hp):V->Value->Prop where
 |non:TyOf K H .non (.type "NoneType")
 |bl (x:Bool):TyOf K H (.bl x) (.type "bool")
 |int (i:Int):TyOf K H (.int i) (.type "int")
 |str (x:Str):TyOf K H (.str x) (.type "str")
 |flt (x:UInt64):TyOf K H (.flt x) (.type "float")
 |lst {a:Addr} {xs:List V} (e:H a=some (.lst xs)):TyOf K H (.ref a) (.type "list")
 |frz {a:Addr} {o:Obj} {xs:List V} (e:H a=some (.frz o (.lst xs))):TyOf K H (.ref a) (.type "list")
 |tup {a:Addr} {xs:List V} (e:H a=some (.tup xs)):TyOf K H (.ref a) (.type "tuple")
 |dK {a:Addr} {kvs:List (Key×V)} (e:H a=some (.dK kvs)):TyOf K H (.ref a) (.type "dict")
 |dT {a:Addr} {kvs:List (List Key×V)} (e:H a=some (.dT kvs)):TyOf K H (.ref a) (.type "dict")
 |ins {a C dx:Addr} {fs:List (Str×V)} (e:H a=some (.ins C dx fs)) (cl:Cls K C) (ha:PySem.W.findIn K (.ref C) "__class__"=some (some (.builtin "object.__class__")))
   (hn:PySem.W.specialIn K (.builtin "object.__class__") "__get__"=some (some (.builtin "getset_descriptor.__get__"))) (htk:PySem.W.takesIn K (.builtin "object.__class__")=some true)
   (hm:PySem.W.mroIn K C (.type "object")=some true):TyOf K H (.ref a) (.ref C)
end
end L2
namespace L2
open PySem PySem.Spec PyProof.Rows
structure Room(k:Nat)(A:Around):Prop where
 hd:A.handled=none
 dp:A.depth+3*k+5<recursionLimit
 un:A.units+16*k+200<cLine
 gd:A.guards=some []
theorem Room.mono{j k:Nat}{A:Around}(r:Room k A)(h:j<=k):Room j A:=⟨r.hd,by have:=r.dp;lia,by have:=r.un;lia,r.gd⟩
theorem Room.deeper{k:Nat}{A:Around}(r:Room (k+1) A)(env:Env):Room k (A.deeper env) :=
 ⟨r.hd,by have:=r.dp;show A.depth+1+3*k+5<_;lia,by have:=r.un;show A.units+3+16*k+200<_;lia,r.gd⟩
theorem Room.depth{k:Nat}{A:Around}(r:Room k A):A.depth<recursionLimit:=by have:=r.dp;lia
theorem Room.units{k:Nat}{A:Around}(r:Room k A):A.units+64<cLine:=by have:=r.un;lia
theorem Room.units0{k:Nat}{A:Around}(r:Room k A):A.units<cLine:=by have:=r.un;lia
noncomputable def tNil:TA:=λ_ H Q=>Q [] H
noncomputable def zc0(ta:TE)(tr:TA):TA:=λσ H Q=>ta σ H λx H1=>tr σ H1 λxs H2=>Q (x::xs) H2
section
variable {X:Cx} {e:Expr} {es:List Expr} {te:TE} {t:TA} {pos:Pos}
theorem zac:PA X [] tNil:=λ_ _ _ _ H Q I h=>Calls.spliced_nil ⟨[],H,I,.nil,h⟩
theorem zaa(ha:PE X e te)(hr:PA X es t)(hs:starEach (e::es) X.env=(false,eval e X.env)::starEach es X.env:=by rfl):PA X (e::es) (zc0 te t):=by
 intro pos pins s σ H Q I h;rw[hs];show wpAny _ _ (spliced ((false,eval e X.env)::backTo pos (starEach es X.env))) _ _ s;refine Calls.spliced_cons (thn (ha pins s σ H _ I h) λu s1 ⟨x,H1,I1,r1,q1⟩=>?_);exact thn (hr pos pins s1 σ H1 _ I1 q1) λus s2 ⟨xs,H2,I2,r2,q2⟩=>⟨x::xs,H2,I2,.cons r1 r2,q2⟩
noncomputable def tTup(t:TA):TE:=λσ H Q=>t σ H λxs H1=>xs.length<=sizeLine/\∀p,H1 p=none->Q (.ref p) (upd H1 p (.tup xs))
noncomputable def tLst(t:TA):TE:=λσ H Q=>t σ H λxs H1=>xs.length<=sizeLine/\∀p,H1 p=none->Q (.ref p) (upd H1 p (.lst xs))
theorem zaP{x1}(h:PA X es t):PE X (.Tuple es x1 pos) (tTup t):=by
 intro pins s σ H Q I hq;refine wpAny_Tuple_spliced (thn (h pos pins s σ H _ I hq) λus s1 ⟨xs,H1,I1,r,z,q⟩=>⟨by rw[<-r.length];exact z,?_⟩);have hf:H1 s1.heap.objs.size=none:=I1.hok.fresh (xA4 _);refine⟨.ref s1.heap.objs.size,upd H1 s1.heap.objs.size (.tup xs),I1.laid (t':=s1.toks) (λb u e=>xA2 _ e) (xA4 _) ?_,rfl,q _ hf⟩;exact⟨z,us,r,⟨_,xA6 _ rfl,rfl,_,rfl⟩⟩
theorem yaA(h:PA X es t):PE X (.List es pos) (tLst t):=by
 intro pins s σ H Q I hq;refine wpAny_List_spliced (thn (h pos pins s σ H _ I hq) λus s1 ⟨xs,H1,I1,r,z,q⟩=>⟨by rw[<-r.length];exact z,?_⟩);have hf:H1 s1.heap.objs.size=none:=I1.hok.fresh (xA4 _);refine⟨.ref s1.heap.objs.size,upd H1 s1.heap.objs.size (.lst xs),I1.laid (t':=s1.toks) (λb u e=>xA2 _ e) (xA4 _) ?_,rfl,q _ hf⟩;exact⟨z,us,0,r,xA6 _ rfl⟩
end
noncomputable abbrev Sp:=List V->Hp->VK->XK->Prop
noncomputable abbrev CXT:=List Env->Hp->Shared->XK->Value->Shared->Prop
structure Env0(P:Program)(w:World)(K:PySem.W.Frag)(mg:Str->Option Value)(base:Heap)(A:Around)(outer:List Env)(s:Shared)(H:Hp):Prop where
 frames:A.frames=some outer
 mod:Mod K mg base
 bs:∀b o,base.get? b=some o->s.heap.get? b=some o/\H b=none
 bsz:base.objs.size<=s.heap.objs.size
 funs:s.heap.FunFrames base outer
 frf:∀b∈frs outer,H b=none
 hok:HOk P w H s.heap
 bare:AllBare s.gens
noncomputable def CE(outer:List Env)(P:Program)(w:World)(H:Hp)(s:Shared)(Q:VK)(u:Value)(s':Shared):Prop :=
 ∃v H',s'.os=s.os/\AllBare s'.gens/\Un (frs outer) [] H H' s.heap s'.heap/\HOk P w H' s'.heap/\RelV v u/\Q v H'
noncomputable def CR(CX:CXT)(outer:List Env)(P:Program)(w:World)(H:Hp)(s:Shared)(Q:VK)(E:XK)(r:Result)(s':Shared):Prop :=
 match r with
 | .ok (.ret u)=>CE outer P w H s Q u s'
 | .ok _=>False
 | .error e=>CX outer H s E e s'
structure FnOk(P:Program)(w:World)(K:PySem.W.Frag)(mg:Str->Option Value)(base:Heap)(CX:CXT)(k:Nat)(f:Addr)(fd:FuncData)(ps:List Str)(sp:Sp):Prop where
 len:∀vs H Q E,sp vs H Q E->vs.length=ps.length
 run:∀(A:Around) (outer:List Env) (s:Shared) (H:Hp) (args:Args) (us:List Value) (vs:List V) (Q:VK) (E:XK),Room k A->Env0 P w K mg base A outer s H->BindsTo s fd args (ps.zip us)->Vals vs us->sp vs H Q E->
  codeAny (model P w) A (.call (.ref f) args) (CR CX outer P w H s Q E) s
theorem FnOk.imp{P:Program}{w:World}{K:PySem.W.Frag}{mg:Str->Option Value}{base:Heap}{CX:CXT}{k:Nat}{f:Addr}{fd:FuncData}{ps:List Str}{sp sp':Sp}(F:FnOk P w K mg base CX k f fd ps sp)
  (h:∀vs H Q E,sp' vs H Q E->sp vs H Q E):FnOk P w K mg base CX k f fd ps sp' :=
 ⟨λvs H Q E q=>F.len vs H Q E (h _ _ _ _ q),λA outer s H args us vs Q E hr he hb hv hs=>F.run A outer s H args us vs Q E hr he hb hv (h _ _ _ _ hs)⟩
section
variable {X:Cx} {pins:List (Addr×Obj)} {σ:St} {H:Hp} {s s':Shared}
theorem Inv.env0(I:Inv X pins σ H s):Env0 X.prog X.w X.K X.mg X.base X.A X.stack s H :=
 ⟨I.ok.frames,I.ok.mod,I.bs,xAB I.ok.bsz I.sz,I.stack,I.stkFree,I.hok,I.bare⟩
theorem Inv.after{Q:VK}{u:Value}(I:Inv X pins σ H s)(h:CE X.stack X.prog X.w H s Q u s'):EP X pins σ Q u s':=by
 obtain⟨v,H',os,bare,un,hok,r,q⟩:=h;obtain⟨hh,g,d,t,os'⟩:=s';obtain rfl:os'=s.os:=os;exact⟨v,H',I.call (h':=hh) (g':=g) (d':=d) (t':=t) (ch:=[]) un hok bare (λb z=>absurd z (by simp)),r,q⟩
end
noncomputable def zhb(sp:Sp)(dvs:List V)(E:XK)(t:TA):TE:=λσ H Q=>t σ H λvs H1=>sp (vs++dvs) H1 Q E
noncomputable def ye8(K:PySem.W.Frag)(fd:FuncData)(ps:List Str)(ds:List Value):Prop :=
 ∀(s:Shared) (us:List Value),K.In s.heap->(us++ds).length=ps.length->BindsTo s fd ⟨us,[]⟩ (ps.zip (us++ds))
theorem ye8.all{K:PySem.W.Frag}{fd:FuncData}{ps:List Str}(h:∀us:List Value,us.length=ps.length->bindArgs fd ⟨us,[]⟩=pure (ps.zip us)):ye8 K fd ps []:=λs us _ hl=>by
 rw[List.append_nil]at hl ⊢;exact .of_eq (h us hl)
noncomputable def zfq(CX:CXT)(X:Cx)(E:XK):Prop:=∀(pins:List (Addr×Obj)) (σ:St) (H:Hp) (s:Shared) (e:Value) (s':Shared),Inv X pins σ H s->CX X.stack H s E e s'->X.xe e s'
section
variable {X:Cx} {CX:CXT} {k:Nat} {f C:Addr} {fd:FuncData} {ps:List Str} {sp:Sp} {dvs:List V} {ds:List Value} {E:XK} {x m:Str} {p pos apos:Pos} {e o:Expr} {es:List Expr} {ta:TE} {t:TA}
theorem yhO{pins:List (Addr×Obj)}{σ:St}{H:Hp}{s:Shared}{Q:VK}{us:List Value}{vs:List V}(F:FnOk X.prog X.w X.K X.mg X.base CX k f fd ps sp)(hr:Room k X.A)(hb:ye8 X.K fd ps ds)(hd:Vals dvs ds)(hx:zfq CX X E)
  (I:Inv X pins σ H s) (r:Vals vs us) (h:sp (vs++dvs) H Q E):wpAny (model X.prog X.w) X.A (call (.ref f) us) (EP X pins σ Q) X.xe s:=by
 have r2:Vals (vs++dvs) (us++ds):=r.append hd;have hl:(us++ds).length=ps.length:=by rw[<-r2.length];exact F.len _ _ _ _ h
 refine wpAny_call (codeAny_mono (F.run X.A X.stack s H ⟨us,[]⟩ (us++ds) (vs++dvs) Q E hr I.env0 (hb s us I.kIn hl) r2 h) λr s' hq=>?_);cases r with
 |error e=>exact hx pins σ H s e s' I hq
 |ok fl=>
  cases fl with
  |ret u=>exact I.after hq
  |next=>exact False.elim hq
  |brk=>exact False.elim hq
  |cont=>exact False.elim hq
theorem yhp(F:FnOk X.prog X.w X.K X.mg X.base CX k f fd ps sp)(hr:Room k X.A)(hg:Gl X x)(hm:X.mg x=some (.ref f))(hk:PySem.W.keepIn X.K (.ref f)=true)(hb:ye8 X.K fd ps ds)(hd:Vals dvs ds)(hx:zfq CX X E)
  (ha:PA X (e::es) t) (hdb:(x==("__debug__":Str))=false:=by decide) (he:starEach (e::es) X.env=(false,eval e X.env)::starEach es X.env:=by rfl) (hpl:(backTo pos (starEach es X.env)).any (·.1)=false:=by rfl) :
  PE X (.Call (.Name x p) (e::es) [] pos) (zhb sp dvs E t):=by
 intro pins s σ H Q I h;refine wpAny_Call_Name_kw (yfW I hg hm ?_ hdb);refine PySem.W.callWith_K (h₀:=X.base) I.ok.mod.kin hk (thn (ha pos pins s σ H _ I h) λus s1 ⟨vs,H1,I1,r,q⟩=>⟨I1.kIn,?_⟩) he hpl;exact yhO F hr hb hd hx I1 r q
structure Mk(K:PySem.W.Frag)(C f:Addr):Prop where
 makes:PySem.W.makesIn K C=true
 init:PySem.W.findIn K (.ref C) "__init__"=some (some (.ref f))
 fn:PySem.W.isFn K (.ref f)=true
 kp:PySem.W.keepIn K (.ref C)=true
end
section
variable {X:Cx} {CX:CXT} {k:Nat} {f C:Addr} {fd:FuncData} {ps ks:List Str} {sp:Sp} {E:XK} {x m:Str} {p pos apos kpos:Pos} {e o:Expr} {es:List Expr} {kws:List Keyword} {te ta:TE} {t tk:TA} {nm:Option Str}
structure KBinds(K:PySem.W.Frag)(fd:FuncData)(ps ks:List Str)(g:List Value->List Value->List Value)(gV:List V->List V->List V):Prop where
 to:∀(s:Shared) (us ws:List Value),K.In s.heap->(g us ws).length=ps.length->BindsTo s fd ⟨us,ks.zip ws⟩ (ps.zip (g us ws))
 rel:∀ {vs:List V} {us:List Value} {zs:List V} {ws:List Value},Vals vs us->Vals zs ws->Vals (gV vs zs) (g us ws)
variable {g:List Value->List Value->List Value} {gV:List V->List V->List V}
end
structure yah(N P:List Str)(sc:Scope):Prop where
 kind:sc.kind = .function
 co:sc.isCoroutine=false
 gen:sc.isGenerator=false
 nd:N.Nodup
 pre:N.take P.length=P
 par:∀x∈P,sc.names.lookup x=some .local\/sc.names.lookup x=some .cell
 nofree:∀y∈sc.names,y.2≠.free
theorem yd7{kindOf:Str->Option NameKind}{x:Str}:∀ {binds:List (Str×Value)} {m:Str->Option Value},(∀v,(x,v)∉binds)->bindL kindOf binds m x=m x
 | [],_,_=>rfl
 |(n,v)::r,m,h=>by
  unfold bindL;rw[yd7 λw hw=>h w (xA7 _ hw)];split
  ·have:x≠n:=by rintro rfl;exact h v xAb
   simp[this]
  ·rfl
theorem ydM{kindOf:Str->Option NameKind}{x:Str}:∀ {binds:List (Str×Value)} {m:Str->Option Value},(∀v,(x,v)∉binds)->bindC kindOf binds m x=m x
 | [],_,_=>rfl
 |(n,v)::r,m,h=>by
  unfold bindC;rw[ydM λw hw=>h w (xA7 _ hw)];split
  ·rfl
  ·have:x≠n:=by rintro rfl;exact h v xAb
   simp[this]
theorem yd9{kindOf:Str->Option NameKind}{x:Str}{v:Value}:∀ {P:List Str} {vs:List Value} {i:Nat} {m:Str->Option Value},P.Nodup->P[i]?=some x->vs[i]?=some v->kindOf x=some .local->
  bindL kindOf (P.zip vs) m x=some v
 | [],_,_,_,_,h,_,_=>by simp at h
 |_::_,[],_,_,_,_,h,_=>by simp at h
 |p::P,w::vs,0,m,nd,h1,h2,hk=>by
  simp at h1 h2;subst h1;subst h2;show bindL kindOf ((p,w)::P.zip vs) m p=_;unfold bindL;rw[yd7 λv hv=>(xBe.mp nd).1 (List.of_mem_zip hv).1,if_pos hk];simp
 |p::P,w::vs,i+1,m,nd,h1,h2,hk=>by
  show bindL kindOf ((p,w)::P.zip vs) m x=_;unfold bindL;exact yd9 (i:=i) (xBe.mp nd).2 (by simpa using h1) (by simpa using h2) hk
theorem zd8{kindOf:Str->Option NameKind}{x:Str}{v:Value}:∀ {P:List Str} {vs:List Value} {i:Nat} {m:Str->Option Value},P.Nodup->P[i]?=some x->vs[i]?=some v->kindOf x≠some .local->
  bindC kindOf (P.zip vs) m x=some v
 | [],_,_,_,_,h,_,_=>by simp at h
 |_::_,[],_,_,_,_,h,_=>by simp at h
 |p::P,w::vs,0,m,nd,h1,h2,hk=>by
  simp at h1 h2;subst h1;subst h2;show bindC kindOf ((p,w)::P.zip vs) m p=_;unfold bindC;rw[ydM λv hv=>(xBe.mp nd).1 (List.of_mem_zip hv).1,if_neg hk];simp
 |p::P,w::vs,i+1,m,nd,h1,h2,hk=>by
  show bindC kindOf ((p,w)::P.zip vs) m x=_;unfold bindC;exact zd8 (i:=i) (xBe.mp nd).2 (by simpa using h1) (by simpa using h2) hk
noncomputable def zd0(N:List Str)(vs:List V):St:=vs.map some++List.replicate (N.length-vs.length) none
noncomputable def cxOf(CX:CXT)(P:Program)(w:World)(K:PySem.W.Frag)(mg:Str->Option Value)(base:Heap)(N:List Str)(qual:Str)(scope:Scope)(f:Addr)(cd:Value)(A:Around)(outer:List Env)(s:Shared)(H:Hp)(E:XK):Cx where
 prog:=P
 w:=w
 K:=K
 mg:=mg
 base:=base
 A:=A.deeper (envOfC qual scope s.heap.objs.size f cd)
 N:=N
 s₀:=s
 H₀:=H
 env:=envOfC qual scope s.heap.objs.size f cd
 outer:=outer
 stack:=envOfC qual scope s.heap.objs.size f cd::outer
 ex:=[]
 calm:=true
 fn:=λ_=>true
 pn:=[]
 xe:=λe s'=>wpAny (model P w) (A.deeper (envOfC qual scope s.heap.objs.size f cd)) (leaving (envOfC qual scope s.heap.objs.size f cd) e) (λ_ s''=>CX outer H s E e s'') (λe' s''=>CX outer H s E e' s'') s'
theorem zeL{sc:Scope}{n:Nat}{x:Str}(h:sc.names.lookup x=some .cell):∃c,(cellsFrom n sc.names []).lookup x=some c:=by
 have q:=PySem.W.cellsFrom_some sc.names n [] (.inl h);exact Option.isSome_iff_exists.mp q
theorem zf0{CX:CXT}{P:Program}{w:World}{K:PySem.W.Frag}{mg:Str->Option Value}{base:Heap}{N ps:List Str}{qual:Str}{scope:Scope}{f:Addr}{cd:Value}{A:Around}{outer:List Env}{s s1:Shared}{H:Hp}{E:XK}{us:List Value}{vs:List V}
  (S:yah N ps scope) (hd:A.handled=none) (e0:Env0 P w K mg base A outer s H) (hl:vs.length=ps.length) (r:Vals vs us)
  (x:InCallC s s.heap.objs.size (bindL (envOfC qual scope s.heap.objs.size f cd).kindOf (ps.zip us) λ_=>none) (cellsFrom (s.heap.objs.size+1) scope.names []) (bindC (envOfC qual scope s.heap.objs.size f cd).kindOf (ps.zip us) λ_=>none) s1) :
  Inv (cxOf CX P w K mg base N qual scope f cd A outer s H E) [] (zd0 N vs) H s1:=by
 have hpl:ps.length<=N.length:=by have:=congrArg List.length S.pre;rw[xAC]at this;lia
 obtain⟨h1,tk,rfl,hk⟩:=x.done;have noA:∀b:Addr,b∉(cxOf CX P w K mg base N qual scope f cd A outer s H E).ex:=λb z=>absurd (show b∈([]:List Addr) from z) (by simp)
 refine⟨⟨e0.mod,S.kind,rfl,rfl,xA4 _,λy z c h1 h2=>?_,λy hy=>?_,λy c _ h=>?_,λ_=>hd,Around.frames_deeper e0.frames,.inr ⟨rfl,rfl⟩,λb z=>absurd z (noA b),e0.bs,e0.bsz,λb _ _=>noA b,λb z=>absurd z (noA b),e0.funs,e0.frf⟩,
  rfl,e0.bare,Un.kept hk,⟨_,x.toInCall.ns,λi y v h1 h2 h3=>?_⟩,λy c h=>⟨_,x.cell y c h⟩,e0.hok.fresh (xA4 _),λy c h=>?_,λp hp=>absurd (show p∈([]:List (Addr×Obj)) from hp) (by simp),e0.hok.kept hk,?_⟩
 ·exact name_of_addr x.apart (PySem.mem_of_lookup h1) (PySem.mem_of_lookup h2)
 ·have hy:scope.names.lookup y=some .cell\/scope.names.lookup y=some .free:=hy;rcases hy with hy|hy
  ·exact zeL hy
  ·exact absurd rfl (S.nofree _ (PySem.mem_of_lookup hy))
 ·exact Nat.le_of_lt (x.above y c (PySem.mem_of_lookup h))
 ·have hi:i<vs.length:=by
   unfold zd0 at h2;by_cases hi:i<vs.length
   ·exact hi
   ·rw[xAU (by simpa using hi)]at h2;rw[List.getElem?_replicate]at h2;split at h2 <;> cases h2
  have ha:vs[i]?=some v:=by
   unfold zd0 at h2;rw[xBn (by simpa using hi),xA8]at h2;cases e:vs[i]? with
   |none=>rw[e]at h2;cases h2
   |some a=>rw[e]at h2;cases h2;rfl
  obtain⟨u,hu,rv⟩:=r.get ha;have hp:ps[i]?=some y:=by
   rw[<-S.pre,List.getElem?_take_of_lt (by lia)];exact h1
  have ndP:ps.Nodup:=by rw[<-S.pre];exact S.nd.sublist (List.take_sublist _ _)
  refine⟨u,rv,?_⟩;rcases S.par y (xBc hp) with k|k
  ·exact .inl ⟨k,yd9 ndP hp hu k⟩
  ·obtain⟨c,e⟩:=zeL (n:=s.heap.objs.size+1) k;refine .inr ⟨.inl k,c,e,?_⟩;have q:=x.cell y c e;rw[zd8 ndP hp hu (by show scope.names.lookup y≠_;rw[k];decide)]at q;exact q
 ·exact e0.hok.fresh (Nat.le_of_lt (x.above y c (PySem.mem_of_lookup h)))
 ·unfold zd0;show _=N.length;rw[xAt,xA0,xAq];lia
theorem zio{CX:CXT}{P:Program}{w:World}{K:PySem.W.Frag}{mg:Str->Option Value}{base:Heap}{k:Nat}{f:Addr}{name qual:Str}{params:Arguments}{body:List Stmt}{scope:Scope}{dV kV doc pm cdv ct oc:Value}{an od:Option Addr}
  {osl:Array (Option Value)} {N ps:List Str} {sp:Sp} (lk:K.lookup f=some ⟨oc,od,.func (PySem.W.fnOf name qual params body scope dV kV doc pm an cdv ct),osl⟩) (hcd:PySem.W.codeIn K cdv qual=true) (S:yah N ps scope)
  (len:∀vs H Q E,sp vs H Q E->vs.length=ps.length)
  (hbody:∀(A:Around) (outer:List Env) (s:Shared) (H:Hp) (vs:List V) (Q:VK) (E:XK),Room k (A.deeper (envOfC qual scope s.heap.objs.size f cdv))->sp vs H Q E->
   ∃t,PSs (cxOf CX P w K mg base N qual scope f cdv A outer s H E) body t/\t { nx:=λ_ H'=>Q .non H',rt:=Q } (zd0 N vs) H) :
  FnOk P w K mg base CX (k+1) f (PySem.W.fnOf name qual params body scope dV kV doc pm an cdv ct) ps sp:=by
 refine⟨len,λA outer s H args us vs Q E hr e0 hb r hsp=>?_⟩;have hl:=len _ _ _ _ hsp;have KX:K.In s.heap:=e0.mod.kin.keeps λb o e=>(e0.bs b o e).1
 have lim:s.heap.NoLimit:=e0.mod.nolimit.keeps λb o e=>(e0.bs b o e).1
 have hkind:∀y∈ps.zip us,scope.names.lookup y.1=some .local\/(scope.names.lookup y.1=some .cell/\((cellsFrom (s.heap.objs.size+1) scope.names []).lookup y.1).isSome=true):=λ⟨n,v⟩ hy=>by
  rcases S.par n (List.of_mem_zip hy).1 with q|q
  ·exact .inl q
  ·exact .inr ⟨q,PySem.W.cellsFrom_some _ _ _ (.inl q)⟩
 refine codeAny_call_function hr.depth (KX _ _ lk) rfl S.co S.gen rfl (PySem.W.codeRec_of KX hcd) (hb _ _ _ _ ?_);refine wpAny_newFunctionEnv_cells S.kind hkind λenv he s1 x=>?_
 subst he;refine⟨lim.keeps x.toInCall.keep,codeAny_func ?_⟩;obtain⟨t,ht,hq⟩:=hbody A outer s H vs Q E (hr.deeper _) hsp;have I:Inv (cxOf CX P w K mg base N qual scope f cdv A outer s H E) [] (zd0 N vs) H s1:=zf0 S hr.hd e0 hl r x;refine xAQ (ht [] s1 (zd0 N vs) H _ I hq) (λfl s' hs=>?_) λe s' hs=>hs
 have fin:∀ {σ':St} {H':Hp} {v:V} {u:Value},Inv (cxOf CX P w K mg base N qual scope f cdv A outer s H E) [] σ' H' s'->RelV v u->Q v H'->CE outer P w H s Q u s' :=
  λ{σ' H' v u} J rv q=>⟨v,H',J.os,J.bare,J.base,J.hok,rv,q⟩
 cases fl with
 |ret u=>
  obtain⟨v,σ',H',J,rv,q⟩:=hs;exact fin J rv q
 |next=>
  obtain⟨σ',H',J,q⟩:=hs;exact fin (v:=V.non) (u:=Value.none) J rfl q
 |brk=>
  obtain⟨_,_,_,q⟩:=hs;exact False.elim q
 |cont=>
  obtain⟨_,_,_,q⟩:=hs;exact False.elim q
end L2
namespace L2
open PySem PySem.Spec PyProof.Rows
section
variable {X:Cx} {x:Str} {p pos:Pos} {e:Expr} {es:List Expr} {t:TA} {id T:String} {r:List V->Hp->VK->Prop}
noncomputable def tCB(r:List V->Hp->VK->Prop)(t:TA):TE:=λσ H Q=>t σ H λvs H1=>r vs H1 Q
theorem zal(hc:zbR X (.builtin id) r)(hg:Gl X x)(hm:X.mg x=none)(hv:bootBuiltins x=some (.builtin id))(ha:PA X (e::es) t)(hn:x≠"__name__":=by decide)(hdb:(x==("__debug__":Str))=false:=by decide)
  (he:starEach (e::es) X.env=(false,eval e X.env)::starEach es X.env:=by rfl) (hpl:(backTo pos (starEach es X.env)).any (·.1)=false:=by rfl):PE X (.Call (.Name x p) (e::es) [] pos) (tCB r t):=by
 intro pins s σ H Q I h;refine wpAny_Call_Name_kw (ybF I hg hm hv ?_ hn hdb);exact PyProof.Rows.callWith_builtin1 (thn (ha pos pins s σ H _ I h) λus s1 ⟨vs,H1,I1,r1,q1⟩=>hc pins s1 σ H1 vs us Q I1 r1 q1) he hpl
theorem zap(hc:zbR X (.type T) r)(hg:Gl X x)(hm:X.mg x=none)(hv:bootBuiltins x=some (.type T))(ha:PA X (e::es) t)(hn:x≠"__name__":=by decide)(hdb:(x==("__debug__":Str))=false:=by decide)
  (he:starEach (e::es) X.env=(false,eval e X.env)::starEach es X.env:=by rfl) (hpl:(backTo pos (starEach es X.env)).any (·.1)=false:=by rfl):PE X (.Call (.Name x p) (e::es) [] pos) (tCB r t):=by
 intro pins s σ H Q I h;refine wpAny_Call_Name_kw (ybF I hg hm hv ?_ hn hdb);exact xAY (thn (ha pos pins s σ H _ I h) λus s1 ⟨vs,H1,I1,r1,q1⟩=>hc pins s1 σ H1 vs us Q I1 r1 q1) he hpl
end
end L2
namespace HT
open PySem PyProof.Rows
section
open PySem.SeqAt
open PySem.AutoSeq1 (wpAny_loadPart')
open PySem.MeetsSeq PySem.MeetsSeq2 PySem.MeetsSeq3
end
section
variable {prog:Program} {w:World} {A:Around} {E:Value->Shared->Prop} {s:Shared}
theorem cat_tup{t b:Addr}{vs ws:List Value}{Q:Value->Shared->Prop}(ht:IsTup s.heap t vs.toArray)(hb:IsTup s.heap b ws.toArray)(hv:vs≠[])
  (h1:ws=[]->Q (.ref t) s) (h2:ws≠[]->Q (.ref s.heap.objs.size) { s with heap:=s.heap.push { cls:=.type "tuple",data:=.seq (vs++ws).toArray } })
  (hsz:vs.length+ws.length<=sizeLine):wpAny (model prog w) A (binaryOp .Add (.ref t) (.ref b)) Q E s:=by
 obtain⟨⟨cls,dd,data,sl⟩,ho,hc,n,hd⟩:=id ht;obtain⟨⟨cls2,dd2,data2,sl2⟩,ho2,hc2,n2,hd2⟩:=id hb;simp only at hc hd hc2 hd2;subst hc hd hc2 hd2;have e:vs.toArray++ws.toArray=(vs++ws).toArray:=by simp
 by_cases hw:ws=[]
 ·exact concat_meets ⟨_,ho,rfl⟩ ⟨_,ho2,rfl⟩ noFill_tuple_add seq_tuple_add PySem.F.slot_tuple_add PySem.F.entry_tuple_add (PySem.F.args_tuple_add_2 _ _)
   (tuple_addW1 t b vs.toArray ws.toArray n n2 dd dd2 sl sl2 (by simpa using hv) (by simp[hw])) ⟨ho,ho2,h1 hw⟩
 ·refine concat_meets ⟨_,ho,rfl⟩ ⟨_,ho2,rfl⟩ noFill_tuple_add seq_tuple_add PySem.F.slot_tuple_add PySem.F.entry_tuple_add (PySem.F.args_tuple_add_2 _ _)
   (tuple_addW2 t b vs.toArray ws.toArray n n2 dd dd2 sl sl2 (by simpa using hv) (by simpa using hw) (by rw[xAa,xAa];exact hsz)) ⟨ho,ho2,?_⟩
  rw[e];exact h2 hw
noncomputable def sIx(n d:Nat):Option Int->Nat
 |none=>d
 |some v=>if v<0 then(v+(n:Int)).toNat else min v.toNat n
theorem sIx_none(n d:Nat):sIx n d none=d:=rfl
theorem sIx_nat(n d k:Nat):sIx n d (some (k:Int))=min k n:=by
 show(if (k:Int)<0 then((k:Int)+(n:Int)).toNat else min (k:Int).toNat n)=min k n;rw[if_neg (by lia),xAs]
theorem yh0(n d:Nat)(hd:d<=n)(o:Option Int):sIx n d o<=n:=by
 cases o with
 |none=>exact hd
 |some v=>
  show(if v<0 then(v+(n:Int)).toNat else min v.toNat n)<=n;by_cases hv:v<0
  ·rw[if_pos hv];lia
  ·rw[if_neg hv];exact Nat.min_le_right _ _
theorem yfx(v:Int)(n d:Nat):(if v<0 then max (v+(n:Int)) 0 else min v (n:Int))=((sIx n d (some v):Nat):Int):=by
 show(if v<0 then max (v+(n:Int)) 0 else min v (n:Int))=(((if v<0 then(v+(n:Int)).toNat else min v.toNat n):Nat):Int)
 by_cases hv:v<0
 ·simp only[if_pos hv];lia
 ·simp only[if_neg hv];lia
theorem ye7(lo hi:Option Int)(n:Nat):Builtin.Slice.sliceAdjust lo hi 1 (n:Int)=(((sIx n 0 lo:Nat):Int),((sIx n n hi:Nat):Int)):=by
 have h1:¬ ((1:Int)<0):=by lia
 unfold Builtin.Slice.sliceAdjust;simp only[h1,if_false];refine Prod.ext ?_ ?_
 ·cases lo with
  |none=>rfl
  |some v=>exact yfx v n 0
 ·cases hi with
  |none=>rfl
  |some v=>exact yfx v n n
theorem zfm(i j:Nat):Builtin.Slice.slicePlaces (i:Int) (j:Int) 1=j-i:=by
 unfold Builtin.Slice.slicePlaces;have h1:(1:Int)>0:=by lia
 simp only[h1,if_true,Int.ediv_one];split <;> lia
theorem ydc{v:Value}{o:Option Int}{Q:Option Int->Shared->Prop}(p:IsPart v o)(h:Q o s):wpAny (model prog w) A (Builtin.Slice.slicePartIndex v) Q E s:=by
 cases p with
 |none=>exact slicePart_none h
 |int i t=>exact slicePart_int h
theorem ybz{sl:Addr}{vl vu:Value}{lo hi:Option Int}{n:Nat}{Q:Int×Int×Nat->Shared->Prop}(hs:s.heap.IsSliceOf sl vl vu .none)(pl:IsPart vl lo)(pu:IsPart vu hi)
  (h:Q (((sIx n 0 lo:Nat):Int),1,sIx n n hi-sIx n 0 lo) s):wpAny (model prog w) A (Builtin.Slice.sliceApplied (.ref sl) (pure (n:Int))) Q E s:=by
 obtain⟨os,hos,hcs,hds⟩:=id hs;unfold Builtin.Slice.sliceApplied Builtin.Slice.sliceFields;refine xA1 (xA1 (xBl hos hds (x:=vl) rfl (xA1 (xBl hos hds (x:=vu) rfl (xA1 (xBl hos hds (x:=.none) rfl (xA3 ?_)))))));refine xA1 (slicePart_none ?_);show wpAny _ _ (if ((1:Int)==0)=true then _ else _) _ _ s;rw[if_neg (by decide)];refine xA1 (ydc pl (xA1 (ydc pu (xA1 (xA3 ?_)))));show wpAny _ _ (match Builtin.Slice.sliceAdjust lo hi 1 (n:Int) with|(lo,hi)=>pure (lo,(1:Int),Builtin.Slice.slicePlaces lo hi 1)) _ _ s;rw[ye7 lo hi n];show wpAny _ _ (pure (((sIx n 0 lo:Nat):Int),(1:Int),Builtin.Slice.slicePlaces ((sIx n 0 lo:Nat):Int) ((sIx n n hi:Nat):Int) 1)) _ _ s;rw[zfm];exact xA3 h
theorem zgM(xs:Array Value)(i k:Nat):((List.range k).filterMap λ(m:Nat)=>xs[((i:Int)+(m:Int)*1).toNat]?).toArray=((xs.toList.drop i).take k).toArray:=by
 have e:(λ(m:Nat)=>xs[((i:Int)+(m:Int)*1).toNat]?)=λm=>xs[i+m]?:=by
  funext m
  have:((i:Int)+(m:Int)*1).toNat=i+m:=by lia
  rw[this]
 rw[e];have:=pick_run xs i k;rw[List.filterMap_map]at this;have e2:((λx=>xs[x]?) ∘ λx=>i+x)=λm=>xs[i+m]?:=rfl
 rw[e2]at this;rw[this]
theorem getItem_tuple_cut{t sl:Addr}{items:Array Value}{vl vu:Value}{lo hi:Option Int}{Q:Value->Shared->Prop}(ht:IsTup s.heap t items)(hs:s.heap.IsSliceOf sl vl vu .none)(pl:IsPart vl lo)(pu:IsPart vu hi)
  (hw:¬ (sIx items.size 0 lo=0/\sIx items.size items.size hi=items.size))
  (h:Q (.ref s.heap.objs.size) { s with heap:=s.heap.push { cls:=.type "tuple",data:=.seq ((items.toList.drop (sIx items.size 0 lo)).take (sIx items.size items.size hi-sIx items.size 0 lo)).toArray } })
  (hsz:items.size<=sizeLine):wpAny (model prog w) A (getItem (.ref t) (.ref sl)) Q E s:=by
 have htake:sizeOk (.seq ((items.toList.drop (sIx items.size 0 lo)).take (sIx items.size items.size hi-sIx items.size 0 lo)).toArray):=by
  show((items.toList.drop (sIx items.size 0 lo)).take (sIx items.size items.size hi-sIx items.size 0 lo)).toArray.size<=sizeLine;rw[xAa,xAC,List.length_drop,xAm];lia
 have hj:sIx items.size items.size hi<=items.size:=yh0 _ _ (xA4 _) hi;obtain⟨os,hos,hcs,hds⟩:=id hs;have hTs:s.TypeIs (.ref sl) "slice":=⟨os,hos,hcs⟩
 unfold getItem
 try with_reducible refine xBf ?_
 first|refine xA1 (xA3 ?_)|skip
 refine xA1 (wpAny_sequenceKey ht.typeIs (by decide) ?_);refine xA1 (xAV (name:=Str.ofString "__getitem__") ht.typeIs PyProof.Rows.slot_tuple_getitem
  (xAX PyProof.Rows.slot_tuple_getitem ht.typeIs entry_tuple_getitem ?_ (args_tuple_getitem _ _)))
 show wpAny _ _ (Builtin.Tuple.tupleItemsOf (.ref t) >>= _) _ _ s;refine xA1 (tupleItemsOf_ ht ?_);refine xA1 (wpAny_typeOf hTs ?_);rw[if_pos (by decide)];refine xA1 (ybz hs pl pu ?_);have hno:¬ ((((sIx items.size 0 lo:Nat):Int)==0&&(1:Int)==1&&(sIx items.size items.size hi-sIx items.size 0 lo)==items.size)=true):=by
  intro q;rw[xAx,xAx]at q;have q1:((sIx items.size 0 lo:Nat):Int)=0:=eq_of_beq q.1.1;have q2:sIx items.size items.size hi-sIx items.size 0 lo=items.size:=eq_of_beq q.2;exact hw ⟨by lia,by lia⟩
 show wpAny _ _ (if (((sIx items.size 0 lo:Nat):Int)==0&&(1:Int)==1&&(sIx items.size items.size hi-sIx items.size 0 lo)==items.size)=true then _ else _) _ _ s;rw[if_neg hno,zgM]
 first
  |exact xA1 (m:=Builtin.Tuple.tupleExact _) (xAN (xA3 ⟨_,rfl,xA3 h⟩) htake)
  |exact xA1 (m:=Builtin.Tuple.tupleExact _) (xAN (xA1 (xA3 (xA3 ⟨_,rfl,xA3 h⟩))) htake)
  |exact xA1 (xA1 (m:=Builtin.Tuple.tupleExact _) (xAN (xA3 (xA3 ⟨_,rfl,xA3 h⟩)) htake))
  |exact xA1 (xA1 (m:=Builtin.Tuple.tupleExact _) (xAN (xA3 ⟨_,rfl,xA3 h⟩) htake))
end
end HT
namespace L2
open PySem PySem.Spec PyProof.Rows
noncomputable abbrev TO:=St->Hp->(Option Int->Hp->Prop)->Prop
noncomputable def PO(X:Cx)(e:Option Expr)(t:TO):Prop :=
 ∀(pins:List (Addr×Obj)) (s:Shared) (σ:St) (H:Hp) (Q:Option Int->Hp->Prop),Inv X pins σ H s->t σ H Q->
  wpAny (model X.prog X.w) X.A (evalPart e X.env) (λu s'=>∃o H',Inv X pins σ H' s'/\IsPart u o/\Q o H') X.xe s
noncomputable def zhx:TO:=λ_ H Q=>Q none H
noncomputable def zie(t:TE):TO:=λσ H Q=>t σ H λx H1=>∃i,x = .int i/\Q (some i) H1
section
variable {X:Cx} {e:Expr} {te:TE} {lo hi:Option Expr} {tl th:TO} {pos p2:Pos}
theorem zdr:PO X none zhx:=by
 intro pins s σ H Q I h;rw[evalPart_none];exact xA3 ⟨none,H,I,.none,h⟩
theorem zdn(h:PE X e te):PO X (some e) (zie te):=by
 intro pins s σ H Q I hw;rw[evalPart_some];refine thn (h pins s σ H _ I hw) λu s1 ⟨x,H1,I1,r1,q1⟩=>?_
 obtain⟨i,rfl,q⟩:=q1;obtain⟨t,rfl⟩:=r1;exact⟨some i,H1,I1,.int i t,q⟩
noncomputable def SlR(X:Cx)(r:V->Option Int->Option Int->Hp->VK->Prop):Prop :=
 ∀(pins:List (Addr×Obj)) (s:Shared) (σ:St) (H:Hp) (x:V) (v vl vu:Value) (lo hi:Option Int) (sl:Addr) (Q:VK),Inv X pins σ H s->RelV x v->s.heap.IsSliceOf sl vl vu .none->IsPart vl lo->IsPart vu hi->r x lo hi H Q->
  ∃T id,typeLookup (.type T) "__getitem__"=pure (some (.builtin id))/\s.TypeIs v T/\wpAny (model X.prog X.w) X.A (getItem v (.ref sl)) (EP X pins σ Q) X.xe s
theorem SlR.or{r r':V->Option Int->Option Int->Hp->VK->Prop}(h:SlR X r)(h':SlR X r'):SlR X (λx lo hi H Q=>r x lo hi H Q\/r' x lo hi H Q):=by
 intro pins s σ H x v vl vu lo hi sl Q I rx hs pl pu q;rcases q with q|q
 ·exact h pins s σ H x v vl vu lo hi sl Q I rx hs pl pu q
 ·exact h' pins s σ H x v vl vu lo hi sl Q I rx hs pl pu q
noncomputable def tSl(r:V->Option Int->Option Int->Hp->VK->Prop)(te:TE)(tl th:TO):TE:=λσ H Q=>te σ H λx H1=>tl σ H1 λl H2=>th σ H2 λu H3=>r x l u H3 Q
theorem zcs{r:V->Option Int->Option Int->Hp->VK->Prop}(hr:SlR X r)(he:PE X e te)(hl:PO X lo tl)(hu:PO X hi th):PE X (.Subscript e (.Slice lo hi none p2) pos) (tSl r te tl th):=by
 intro pins s σ H Q I h;refine Subscript_ (thn (he pins s σ H _ I h) λv s1 ⟨x,H1,I1,r1,q1⟩=>?_);refine wpAny_Slice (thn (hl pins s1 σ H1 _ I1 q1) λvl s2 ⟨l,H2,I2,pl,q2⟩=>thn (hu pins s2 σ H2 _ I2 q2) λvu s3 ⟨u,H3,I3,pu,q3⟩=>?_);rw[evalPart_none];refine xA3 ?_;have I4:Inv X pins σ H3 { s3 with heap:=s3.heap.push { cls:=.type "slice",data:=.fields #[vl,vu,.none] } }:=I3.kept (t':=s3.toks) λb ob q=>xA2 _ q
 obtain⟨T,id,hT,ht,hg⟩:=hr pins { s3 with heap:=s3.heap.push { cls:=.type "slice",data:=.fields #[vl,vu,.none] } } σ H3 x v vl vu l u s3.heap.objs.size Q I4 r1 (Heap.IsSliceOf.new ..) pl pu q3;show wpAny (model X.prog X.w) X.A (subscriptTail e (.Slice lo hi none p2) v (.ref s3.heap.objs.size)) (EP X pins σ Q) X.xe { s3 with heap:=s3.heap.push { cls:=.type "slice",data:=.fields #[vl,vu,.none] } };exact tail_any (ops:=[.ref s3.heap.objs.size,v]) ht hT hg (by with_unfolding_all rfl)
noncomputable def cutV(xs:List V)(lo hi:Option Int):List V:=(xs.drop (HT.sIx xs.length 0 lo)).take (HT.sIx xs.length xs.length hi-HT.sIx xs.length 0 lo)
theorem ycQ(xs:List V)(lo hi:Option Int):(cutV xs lo hi).length<=xs.length:=by
 unfold cutV;rw[xAC,List.length_drop];lia
noncomputable def rSlT(K:PySem.W.Frag):V->Option Int->Option Int->Hp->VK->Prop:=λx lo hi H Q=>∃a xs,x = .ref a/\SqT K H a xs/\
 ¬ (HT.sIx xs.length 0 lo=0/\HT.sIx xs.length xs.length hi=xs.length)/\∀p,H p=none->Q (.ref p) (upd H p (.tup (cutV xs lo hi)))
theorem ygV:SlR X (rSlT X.K):=by
 intro pins s σ H x v vl vu lo hi sl Q I rx hs pl pu h;obtain⟨a,xs,rfl,hx,hw,q⟩:=h;cases rx;obtain⟨its,r,ht,hz⟩:=I.tuple hx;have hlen:its.toArray.size=xs.length:=by rw[xAa];exact r.length.symm
 refine⟨"tuple",_,PyProof.Rows.slot_tuple_getitem.lookup,ht.typeIs,?_⟩;refine HT.getItem_tuple_cut ht hs pl pu (by rw[hlen];exact hw) ?_ (by rw[hlen];exact hz);rw[hlen];refine⟨.ref s.heap.objs.size,_,I.laid (t':=s.toks) (o:=.tup (cutV xs lo hi)) (λb ob q=>xA2 _ q) (xA4 _) ?_,rfl,q _ (I.hok.fresh (xA4 _))⟩;exact⟨xAB (ycQ xs lo hi) hz,_,(r.drop (HT.sIx xs.length 0 lo)).take (HT.sIx xs.length xs.length hi-HT.sIx xs.length 0 lo),IsTup.new _ _⟩
noncomputable def yih(K:PySem.W.Frag):R2:=λx y H Q=>∃a b xs ys,x = .ref a/\y = .ref b/\SqT K H a xs/\SqT K H b ys/\xs≠[]/\xs.length+ys.length<=sizeLine/\
 (ys=[]->Q (.ref a) H)/\(ys≠[]->∀p,H p=none->Q (.ref p) (upd H p (.tup (xs++ys))))
theorem Vals.nil_iff{xs:List V}{us:List Value}(r:Vals xs us):us=[]↔xs=[]:=by
 cases r with
 |nil=>simp
 |cons _ _=>simp
theorem zhu:OpR X (binaryOp .Add) (yih X.K):=by
 intro pins s σ H x y v u Q I rx ry h;obtain⟨a,b,xs,ys,rfl,rfl,ha,hb,hx,hz,q1,q2⟩:=h;cases rx;cases ry;obtain⟨its,r1,p1,_⟩:=I.tuple ha;obtain⟨its2,r2,p2,_⟩:=I.tuple hb;refine HT.cat_tup p1 p2 (λz=>hx (r1.nil_iff.mp z)) (λz=>⟨.ref a,H,I,rfl,q1 (r2.nil_iff.mp z)⟩) (λz=>?_) (by rw[<-r1.length,<-r2.length];exact hz);refine⟨.ref s.heap.objs.size,_,I.laid (t':=s.toks) (o:=.tup (xs++ys)) (λb ob q=>xA2 _ q) (xA4 _) ?_,rfl,q2 (λw=>z (r2.nil_iff.mpr w)) _ (I.hok.fresh (xA4 _))⟩;exact⟨by rw[xAt];exact hz,_,r1.append r2,IsTup.new _ _⟩
end
end L2
namespace L2
open PySem PySem.Spec PyProof.Rows
noncomputable def ixN(n:Nat)(i:Int):Option Nat:=if 0<=i then(if i<n then some i.toNat else none) else if -(n:Int)<=i then some (i+n).toNat else none
noncomputable def atI{α:Type}(xs:List α)(i:Int):Option α:=(ixN xs.length i).bind λj=>xs[j]?
theorem yei{n:Nat}{i:Int}{j:Nat}(h:ixN n i=some j):seqIndex? i n=some j/\j<n/\-(n:Int)<=i/\i<n:=by
 unfold ixN at h;by_cases h0:0<=i
 ·rw[if_pos h0]at h;by_cases h1:i<n
  ·rw[if_pos h1]at h;have e:i.toNat=j:=xAv h;exact⟨by rw[seqIndex_of h0 h1,e],by lia,by lia,h1⟩
  ·rw[if_neg h1]at h;cases h
 ·rw[if_neg h0]at h;by_cases h1 : -(n:Int)<=i
  ·rw[if_pos h1]at h;have e:(i+n).toNat=j:=xAv h;exact⟨by rw[seqIndex_neg (by lia) h1,e],by lia,h1,by lia⟩
  ·rw[if_neg h1]at h;cases h
theorem zeD{α:Type}{xs:List α}{i:Int}{v:α}(h:atI xs i=some v):∃j,seqIndex? i xs.length=some j/\xs[j]?=some v/\j<xs.length/\-(xs.length:Int)<=i/\i<xs.length:=by
 unfold atI at h;cases e:ixN xs.length i with
 |none=>rw[e]at h;cases h
 |some j=>
  rw[e]at h;obtain⟨h1,h2,h3,h4⟩:=yei e;exact⟨j,h1,h,h2,h3,h4⟩
theorem zaN{α:Type}{xs:List α}{j:Nat}{v:α}(h:xs[j]?=some v):atI xs (j:Int)=some v:=by
 have hj:j<xs.length:=(xAk.mp h).1;have e:ixN xs.length (j:Int)=some j:=by
  unfold ixN;rw[if_pos (by lia),if_pos (by lia)];simp
 unfold atI;rw[e];exact h
noncomputable def zhH(b:Expr):Prop:=∀o i,subscripted b false o i=operate [o,i] (getItem o i)
noncomputable def IxR(X:Cx)(r:R2):Prop :=
 ∀(value slice:Expr) (pins:List (Addr×Obj)) (s:Shared) (σ:St) (H:Hp) (x y:V) (v u:Value) (Q:VK),Inv X pins σ H s->RelV x v->RelV y u->r x y H Q->
  subscripted slice false v u=operate [v,u] (getItem v u)->wpAny (model X.prog X.w) X.A (subscriptTail value slice v u) (EP X pins σ Q) X.xe s
noncomputable def MtR(X:Cx)(id:String)(r:V->List V->Hp->VK->Prop):Prop :=
 ∀(pins:List (Addr×Obj)) (s:Shared) (σ:St) (H:Hp) (x:V) (xs:List V) (v:Value) (us:List Value) (Q:VK),Inv X pins σ H s->RelV x v->Vals xs us->r x xs H Q->
  wpAny (model X.prog X.w) X.A (call (.builtin id) (v::us)) (EP X pins σ Q) X.xe s
section
variable {X:Cx} {a b:Expr} {ta tb:TE} {pos:Pos}
theorem zan{r:R2}(hr:IxR X r)(ha:PE X a ta)(hb:PE X b tb)(hs:zhH b):PE X (.Subscript a b pos) (tOp r ta tb):=by
 intro pins s σ H Q I h;exact Subscript_ (binT ha hb I h λv u s2 x y H2 I2 rx ry q=>hr a b pins s2 σ H2 x y v u Q I2 rx ry q (hs _ _))
noncomputable def rIxL(K:PySem.W.Frag):R2:=λx y H Q=>∃p xs i v,x = .ref p/\y = .int i/\SqL K H p xs/\atI xs i=some v/\Q v H
noncomputable def rIxT(K:PySem.W.Frag):R2:=λx y H Q=>∃p xs i v,x = .ref p/\y = .int i/\SqT K H p xs/\atI xs i=some v/\Q v H
theorem zao:IxR X (rIxL X.K):=by
 intro value slice pins s σ H x y v u Q I rx ry h hs;obtain⟨p,xs,i,z,rfl,rfl,hq,he,q⟩:=h;cases rx;obtain⟨t,rfl⟩:=ry;obtain⟨its,r,pl,hz⟩:=I.list hq;obtain⟨j,h1,h2,h3,h4,h5⟩:=zeD he;obtain⟨w,ew,rw'⟩:=r.get h2;have hl:=r.length;have hn:=yd1;have fin:EP X pins σ Q w s:=⟨z,H,I,rw',q⟩
 by_cases h0:0<=i
 ·have hj:i.toNat=j:=by
   rw[seqIndex_of h0 h5]at h1;exact xAv h1
  exact item_listR pl.isList h0 (by lia) (by rw[hj];simpa using ew) fin hs
 ·have hj:(i+(its.toArray.size:Int)).toNat=j:=by
   rw[seqIndex_neg (by lia) h4]at h1;rw[xAa,<-hl];exact xAv h1
  exact subscriptTail_builtinR (x:=w) pl.isList.typeIs slot_list_getitem.lookup
   (wpAny_getItem_list_neg (Q:=λr s'=>r=w/\EP X pins σ Q r s') pl.isList (by lia) (by rw[xAa] <;> lia) (by lia) (by rw[hj];simpa using ew) ⟨rfl,fin⟩) hs
theorem zas:IxR X (rIxT X.K):=by
 intro value slice pins s σ H x y v u Q I rx ry h hs;obtain⟨p,xs,i,z,rfl,rfl,hq,he,q⟩:=h;cases rx;obtain⟨t,rfl⟩:=ry;obtain⟨its,r,pl,hz⟩:=I.tuple hq;obtain⟨j,h1,h2,h3,h4,h5⟩:=zeD he;obtain⟨w,ew,rw'⟩:=r.get h2;have hl:=r.length;have hn:=yd1;have fin:EP X pins σ Q w s:=⟨z,H,I,rw',q⟩
 exact subscriptTail_builtinR (x:=w) pl.typeIs slot_tuple_getitem.lookup
  (getItem_tuple (j:=j) (Q:=λr s'=>r=w/\EP X pins σ Q r s') pl (by lia) (by lia) (by rw[xAa,<-hl];exact h1) (by simpa using ew) ⟨rfl,fin⟩) hs
theorem zfa(its:List Value)(n j:Nat)(u:Value):Obj.mapSeq (·.setIfInBounds j u) { cls:=.type "list",data:=.seq its.toArray n }={ cls:=.type "list",data:=.seq (its.set j u).toArray n }:=by
 simp[Obj.mapSeq]
theorem Inv.lst{pins:List (Addr×Obj)}{σ:St}{H:Hp}{s:Shared}{p:Addr}{xs:List V}(I:Inv X pins σ H s)(h:H p=some (.lst xs)) :
  ∃(its:List Value) (n:Nat),Vals xs its/\s.heap.get? p=some { cls:=.type "list",data:=.seq its.toArray n }/\xs.length<=sizeLine:=by
 obtain⟨z,its,n,r,e⟩:=I.hok p _ h;exact⟨its,n,r,e,z⟩
theorem Inv.lstUpd{pins:List (Addr×Obj)}{σ:St}{H:Hp}{s:Shared}{p:Addr}{xs ys:List V}{its its':List Value}{n n':Nat}{f:Obj->Obj}(I:Inv X pins σ H s)(h:H p=some (.lst xs))
  (ho:s.heap.get? p=some { cls:=.type "list",data:=.seq its.toArray n }) (hf:f { cls:=.type "list",data:=.seq its.toArray n }={ cls:=.type "list",data:=.seq its'.toArray n' }) (r:Vals ys its') (hz:ys.length<=sizeLine) (t:Nat) :
  Inv X pins σ (upd H p (.lst ys)) { s with heap:=s.heap.update p f,toks:=t }:=by
 have e:(s.heap.update p f).get? p=some { cls:=.type "list",data:=.seq its'.toArray n' }:=by
  rw[xBg f ho (by rw[hf] <;> rfl),hf]
 refine I.write (x:=p) (e:=p) (by rw[h];trivial) (.inl rfl) (λb u hb q=>(xAW _ _ (Ne.symm hb)).trans q) ⟨_,e⟩ ?_;exact⟨hz,its',n',r,e⟩
noncomputable def yid:V->V->V->Hp->(Hp->Prop)->Prop:=λo i v H Q=>∃p xs k j,o = .ref p/\i = .int k/\H p=some (.lst xs)/\ixN xs.length k=some j/\Q (upd H p (.lst (xs.set j v)))
theorem yaW:PSet X yid:=by
 intro pins s σ H o i v ov iv u Q I ro ri rv h;obtain⟨p,xs,k,j,rfl,rfl,hp,hj,q⟩:=h;cases ro;obtain⟨t,rfl⟩:=ri;obtain⟨its,n,r,ho,hz⟩:=I.lst hp;obtain⟨h1,h2,h3,h4⟩:=yei hj;have hl:=r.length;have hn:=yd1;have I':Inv X pins σ (upd H p (.lst (xs.set j v))) { s with heap:=s.heap.update p (Obj.mapSeq (·.setIfInBounds j u)) } :=
  I.lstUpd hp ho (zfa its n j u) (r.set rv j) (by rw[List.length_set];exact hz) s.toks
 by_cases h0:0<=k
 ·have hk:k.toNat=j:=by
   rw[seqIndex_of h0 h4]at h1;exact xAv h1
  exact PySem.W.ki_setAt ho h0 (by lia) (by rw[xAa,<-hl];exact h4) (by rw[hk];exact⟨_,I',q⟩)
 ·have hk:(k+(its.toArray.size:Int)).toNat=j:=by
   rw[seqIndex_neg (by lia) h3]at h1;rw[xAa,<-hl];exact xAv h1
  exact PySem.W.ki_setBack ho (by lia) (by rw[xAa,<-hl];exact h3) (by lia) (by rw[hk];exact⟨_,I',q⟩)
theorem zdP(lo hi:Option Int)(n:Nat):(sliceBounds lo hi none n).1=((HT.sIx n 0 lo:Nat):Int)/\(sliceBounds lo hi none n).2.1=((HT.sIx n n hi:Nat):Int)/\(sliceBounds lo hi none n).2.2=1:=by
 refine⟨?_,?_,rfl⟩
 ·cases lo with
  |none=>simp[sliceBounds,HT.sIx]
  |some i=>
   simp only[sliceBounds,HT.sIx,Option.getD_none,show(1:Int)>0 by decide,if_true];by_cases h:i<0
   ·simp only[h,if_true] <;> lia
   ·simp only[h,if_false] <;> lia
 ·cases hi with
  |none=>simp[sliceBounds,HT.sIx]
  |some i=>
   simp only[sliceBounds,HT.sIx,Option.getD_none,show(1:Int)>0 by decide,if_true];by_cases h:i<0
   ·simp only[h,if_true] <;> lia
   ·simp only[h,if_false] <;> lia
theorem zdj(its:List Value)(lo hi:Option Int):slicePick its.toArray lo hi none=((its.drop (HT.sIx its.length 0 lo)).take (HT.sIx its.length its.length hi-HT.sIx its.length 0 lo)).toArray:=by
 obtain⟨h1,h2,h3⟩:=zdP lo hi its.toArray.size;unfold slicePick;rw[h1,h2,h3];simp only[sliceRange_one,pick_run,xAa] <;> rfl
noncomputable def rSlL(K:PySem.W.Frag):V->Option Int->Option Int->Hp->VK->Prop:=λx lo hi H Q=>∃a xs,x = .ref a/\SqL K H a xs/\∀p,H p=none->Q (.ref p) (upd H p (.lst (cutV xs lo hi)))
theorem yef:SlR X (rSlL X.K):=by
 intro pins s σ H x v vl vu lo hi sl Q I rx hs pl pu h;obtain⟨a,xs,rfl,hx,q⟩:=h;cases rx;obtain⟨its,r,ht,hz⟩:=I.list hx;have hlen:=r.length;refine⟨"list",_,slot_list_getitem.lookup,ht.isList.typeIs,?_⟩;refine wpAny_getItem_list_slice ht.isList hs pl pu .none (by simp) ?_ (by rw[xAa] <;> lia);rw[zdj,<-hlen];refine⟨.ref s.heap.objs.size,_,I.laid (t':=s.toks) (o:=.lst (cutV xs lo hi)) (λb ob q=>xA2 _ q) (xA4 _) ?_,rfl,q _ (I.hok.fresh (xA4 _))⟩;exact⟨xAB (ycQ xs lo hi) hz,_,0,(r.drop (HT.sIx xs.length 0 lo)).take (HT.sIx xs.length xs.length hi-HT.sIx xs.length 0 lo),xA6 _ rfl⟩
noncomputable def yde:V->Bool
 | .non=>true
 | .bl _=>true
 | .int _=>true
 | .str _=>true
 |_=>false
noncomputable def eqV:V->V->Bool
 | .non,.non=>true
 | .bl a,.bl b=>a==b
 | .bl a,.int b=>(if a then 1 else 0)==b
 | .int a,.bl b=>a==(if b then 1 else 0)
 | .int a,.int b=>a==b
 | .str a,.str b=>a==b
 |_,_=>false
theorem yhY{A:Around}{s:Shared}{y x:V}{u v:Value}(ry:RelV y u)(rx:RelV x v)(fy:yde y=true)(fx:yde x=true):SeqAt.EqAt A s u v (eqV y x):=by
 cases y with
 |non=>
  cases ry;cases x with
  |non=>cases rx;exact SeqAt.EqAt.same _
  |bl b=>cases rx;exact SeqAt.EqAt.none_bool b
  |int b=>obtain⟨t,rfl⟩:=rx;exact SeqAt.EqAt.none_int b t
  |str b=>obtain⟨t,rfl⟩:=rx;exact SeqAt.EqAt.none_str b t
  |_=>exact absurd (show false=true from fx) xAo
 |bl a=>
  cases ry;cases x with
  |non=>cases rx;exact SeqAt.EqAt.bool_none a
  |bl b=>cases rx;exact SeqAt.EqAt.bool_bool a b
  |int b=>obtain⟨t,rfl⟩:=rx;exact SeqAt.EqAt.bool_int a b t
  |str b=>obtain⟨t,rfl⟩:=rx;exact SeqAt.EqAt.bool_str a b t
  |_=>exact absurd (show false=true from fx) xAo
 |int a=>
  obtain⟨t',rfl⟩:=ry;cases x with
  |non=>cases rx;exact SeqAt.EqAt.int_none a t'
  |bl b=>cases rx;exact SeqAt.EqAt.int_bool a t' b
  |int b=>obtain⟨t,rfl⟩:=rx;exact SeqAt.EqAt.int_int a t' b t
  |str b=>obtain⟨t,rfl⟩:=rx;exact SeqAt.EqAt.int_str a t' b t
  |_=>exact absurd (show false=true from fx) xAo
 |str a=>
  obtain⟨t',rfl⟩:=ry;cases x with
  |non=>cases rx;exact SeqAt.EqAt.str_none a t'
  |bl b=>cases rx;exact SeqAt.EqAt.str_bool a t' b
  |int b=>obtain⟨t,rfl⟩:=rx;exact SeqAt.EqAt.str_int a t' b t
  |str b=>obtain⟨t,rfl⟩:=rx;exact SeqAt.EqAt.str_str a t' b t
  |_=>exact absurd (show false=true from fx) xAo
 |_=>exact absurd (show false=true from fy) xAo
noncomputable def eqU(x:V)(u:Value):Bool:=match u with
 | .none=>eqV .non x
 | .bool b=>eqV (.bl b) x
 | .int i _=>eqV (.int i) x
 | .str z _=>eqV (.str z) x
 |_=>false
theorem yg2{x y:V}{u:Value}(r:RelV y u)(f:yde y=true):eqU x u=eqV y x:=by
 cases y with
 |non=>cases r;rfl
 |bl b=>cases r;rfl
 |int i=>obtain⟨t,rfl⟩:=r;rfl
 |str z=>obtain⟨t,rfl⟩:=r;rfl
 |_=>exact absurd (show false=true from f) xAo
theorem yeD{x:V}:∀ {xs:List V} {us:List Value},Vals xs us->xs.all yde=true->us.any (eqU x)=xs.any λy=>eqV y x
 |_,_,.nil,_=>rfl
 |y::xs,u::us,.cons r t,f=>by
  rw[List.all_cons,xAx]at f;rw[List.any_cons,List.any_cons,yg2 r f.1,yeD t f.2]
theorem ydy{A:Around}{s:Shared}{x:V}{v:Value}(rx:RelV x v)(fx:yde x=true):∀ {xs:List V} {us:List Value},Vals xs us->xs.all yde=true->∀u∈us,SeqAt.EqAt A s u v (eqU x u)
 |_,_,.nil,_=>λu hu=>by cases hu
 |y::xs,u::us,.cons r t,f=>λu' hu=>by
  rw[List.all_cons,xAx]at f;rcases xA9.mp hu with rfl|hu
  ·rw[yg2 r f.1];exact yhY r rx f.1 fx
  ·exact ydy rx fx t f.2 u' hu
noncomputable def inV(x:V)(xs:List V):Bool:=xs.any λy=>eqV y x
noncomputable def rIn(K:PySem.W.Frag)(neg:Bool):R2:=λx y H Q=>∃p xs,y = .ref p/\(SqL K H p xs\/SqT K H p xs)/\yde x=true/\xs.all yde=true/\Q (.bl (if neg then !inV x xs else inV x xs)) H
theorem ydP:OpR X (compareOp .NotIn) (rIn X.K true):=by
 intro pins s σ H x y v u Q I rx ry h;obtain⟨p,xs,rfl,hq,fx,fs,q⟩:=h;cases ry;rcases hq with hq|hq
 ·obtain⟨its,r,pl,hz⟩:=I.list hq;refine SeqAt.notIn_listAt (eqU x) pl.isList (λw hw=>ydy rx fx r fs w (by simpa using hw)) ⟨.bl _,H,I,rfl,?_⟩;rw[show its.toArray.any (eqU x)=its.any (eqU x) by simp,yeD r fs];exact q
 ·obtain⟨its,r,pl,hz⟩:=I.tuple hq;refine SeqAt.notIn_tupleAt (eqU x) pl (λw hw=>ydy rx fx r fs w (by simpa using hw)) ⟨.bl _,H,I,rfl,?_⟩;rw[show its.toArray.any (eqU x)=its.any (eqU x) by simp,yeD r fs];exact q
theorem zaj:zbR X (.builtin "len") (λxs H Q=>∃p ys,xs=[.ref p]/\(SqL X.K H p ys\/SqT X.K H p ys)/\Q (.int ys.length) H):=by
 intro pins s σ H xs us Q I r h;obtain⟨p,ys,rfl,hq,q⟩:=h;obtain⟨u,rfl,rx⟩:=ycg r;cases rx;have hn:=yd1;rcases hq with hq|hq
 ·obtain⟨its,r',pl,hz⟩:=I.list hq;have hlen:=r'.length;exact Calls.call_len_list pl.isList (by simp only[xAa] <;> lia) ⟨.int ys.length,H,I.tok _,⟨s.toks+1,by rw[xAa,hlen]⟩,q⟩
 ·obtain⟨its,r',pl,hz⟩:=I.tuple hq;have hlen:=r'.length;exact len_tuple pl (by simp only[xAa] <;> lia) ⟨.int ys.length,H,I.tok _,⟨s.toks+1,by rw[xAa,hlen]⟩,q⟩
theorem zbF:zbR X (.type "list") (λxs H Q=>∃p ys,xs=[.ref p]/\(SqL X.K H p ys\/SqT X.K H p ys)/\∀l,H l=none->Q (.ref l) (upd H l (.lst ys))):=by
 intro pins s σ H xs us Q I r h;obtain⟨p,ys,rfl,hq,q⟩:=h;obtain⟨u,rfl,rx⟩:=ycg r;cases rx;have fin:∀(its:List Value),Vals ys its->ys.length<=sizeLine->∀(h':Heap) (c':Nat),(∀b o',s.heap.get? b=some o'->h'.get? b=some o')->
   h'.get? s.heap.objs.size=some { cls:=.type "list",dict:=none,data:=.seq its.toArray c',slots:=#[] }->EP X pins σ Q (.ref s.heap.objs.size) { s with heap:=h' }:=λits r' hz h' c' kp e=>
  ⟨.ref s.heap.objs.size,_,I.laid (t':=s.toks) kp (xA4 _) (show yba X.prog X.w _ h' _ (.lst ys) from⟨hz,its,c',r',e⟩),rfl,q _ (I.hok.fresh (xA4 _))⟩
 rcases hq with hq|hq
 ·obtain⟨its,r',pl,hz⟩:=I.list hq;have hlen:=r'.length;obtain⟨o,ho,hc,n,hd⟩:=pl.isList;exact call_list_seq p (.inl rfl) ho hc hd (λh' c' kp e=>fin its r' hz h' c' kp e) (by simp only[xAa] <;> lia)
 ·obtain⟨its,r',pl,hz⟩:=I.tuple hq;have hlen:=r'.length;obtain⟨o,ho,hc,n,hd⟩:=pl;exact call_list_seq p (.inr rfl) ho hc hd (λh' c' kp e=>fin its r' hz h' c' kp e) (by simp only[xAa] <;> lia)
theorem yap:zbR X (.type "tuple") (λxs H Q=>∃p ys,xs=[.ref p]/\((SqL X.K H p ys/\∀l,H l=none->Q (.ref l) (upd H l (.tup ys)))\/(SqT X.K H p ys/\Q (.ref p) H))):=by
 intro pins s σ H xs us Q I r h;obtain⟨p,ys,rfl,h⟩:=h;obtain⟨u,rfl,rx⟩:=ycg r;cases rx;rcases h with⟨hq,q⟩ |⟨hq,q⟩
 ·obtain⟨its,r',pl,hz⟩:=I.list hq;have hlen:=r'.length;refine call_tuple_list pl.isList (λh' kp=>?_) (by simp only[xAa] <;> lia);have I1:Inv X pins σ H { s with heap:=h' }:=I.kept (t':=s.toks) kp;have I2:Inv X pins σ (upd H h'.objs.size (.tup ys)) { s with heap:=h'.push { cls:=.type "tuple",data:=.seq its.toArray } } :=
   I1.laid (t':=s.toks) (λb o e=>xA2 _ e) (xA4 _) (show yba X.prog X.w _ _ _ (.tup ys) from⟨hz,its,r',IsTup.new _ _⟩)
  exact⟨.ref h'.objs.size,_,I2,rfl,q _ (I1.hok.fresh (xA4 _))⟩
 ·obtain⟨its,r',pl,hz⟩:=I.tuple hq;exact call_tuple_same pl ⟨.ref p,H,I,rfl,q⟩
noncomputable def tyV(K:PySem.W.Frag)(T:String)(x:V)(H:Hp):Prop:=match x with
 | .str _=>T = "str"
 | .int _=>T = "int"
 | .ref p=>(T = "list"/\∃xs,SqL K H p xs)\/(T = "tuple"/\∃o,K.lookup p=some o/\o.cls = .type "tuple"/\o.dict=none)\/
   (T = "dict"/\((∃kvs,H p=some (.dK kvs))\/∃kvs,H p=some (.dT kvs)))\/(T = "set"/\∃S n,H p=some (.set S n))
 |_=>False
theorem zh8{pins:List (Addr×Obj)}{σ:St}{H:Hp}{s:Shared}{T:String}{x:V}{v:Value}(I:Inv X pins σ H s)(r:RelV x v)(ty:tyV X.K T x H) :
  s.TypeIs v T/\∀a,v = .ref a->∃ob,s.heap.get? a=some ob/\ob.dict=none:=by
 cases x with
 |str z=>
  obtain⟨t,rfl⟩:=r;cases (show T = "str" from ty);exact⟨typeIs_str s z t,λ_ e=>nomatch e⟩
 |int i=>
  obtain⟨t,rfl⟩:=r;cases (show T = "int" from ty);exact⟨typeIs_int s i t,λ_ e=>nomatch e⟩
 |ref p=>
  cases r;rcases ty with⟨rfl,xs,hq⟩ |⟨rfl,o,hk,hc,hd⟩ |⟨rfl,hk⟩ |⟨rfl,S,n,hk⟩
  ·obtain⟨its,_,pl,_⟩:=I.list hq;refine⟨pl.isList.typeIs,λa e=>?_⟩;cases e;obtain⟨o,n,e,c,hd,_⟩:=pl;exact⟨o,e,hd⟩
  ·refine⟨⟨o,I.kIn p o hk,hc⟩,λa e=>?_⟩;cases e;exact⟨o,I.kIn _ o hk,hd⟩
  ·have z:∃o,s.heap.get? p=some o/\o.ExactDict:=by
    rcases hk with⟨kvs,hk⟩ |⟨kvs,hk⟩
    ·obtain⟨_,_,_,_,o,_,_,e,ex,_⟩:=I.hok p _ hk;exact⟨o,e,ex⟩
    ·obtain⟨_,_,_,_,o,_,_,e,ex,_⟩:=I.hok p _ hk;exact⟨o,e,ex⟩
   obtain⟨o,e,ex⟩:=z;refine⟨⟨o,e,ex.1⟩,λa e2=>?_⟩;cases e2;exact⟨o,e,ex.2.1⟩
  ·obtain⟨o,_,_,_,e,ex,_⟩:=I.hok p _ hk;refine⟨⟨o,e,ex.1⟩,λa e2=>?_⟩;cases e2;exact⟨o,e,ex.2.1⟩
 |_=>exact False.elim ty
noncomputable def tBM(K:PySem.W.Frag)(T:String)(r:V->List V->Hp->VK->Prop)(to:TE)(t:TA):TE:=λσ H Q=>to σ H λx H1=>tyV K T x H1/\t σ H1 λxs H2=>r x xs H2 Q
variable {o e:Expr} {es:List Expr} {to:TE} {t:TA} {name:Str} {apos cpos:Pos} {T id:String} {r:V->List V->Hp->VK->Prop}
theorem zfi(pa:PlainAttrs T)(slot:Slot T name id)(hty:typeOf (.builtin id)=pure (.type "method_descriptor"))(hm:MtR X id r)(ho:PE X o to)(ha:PA X (e::es) t)
  (hbase:attributeBase o name X.env (eval o X.env)=eval o X.env:=by rfl)
  (hfew:((backTo cpos (starEach (e::es) X.env)).all (λx=>!x.1)&&(backToKw cpos (keywordEach [] X.env)).all (λx=>x.1.isSome)
   && decide ((e::es).length+([]:List Keyword).length+(if ([]:List Keyword).isEmpty then 0 else 1)<30))=true:=by rfl)
  (hline:(apos.endLine==cpos.line)=true:=by rfl) (hs:starEach (e::es) X.env=(false,eval e X.env)::starEach es X.env:=by rfl) (hplain:(backTo cpos (starEach es X.env)).any (·.1)=false:=by rfl) :
  PE X (.Call (.Attribute o name apos) (e::es) [] cpos) (tBM X.K T r to t):=by
 intro pins s σ H Q I h;refine wpAny_Call_method_late hbase hfew hline rfl (thn (ho pins s σ H _ I h) λv s1 ⟨x,H1,I1,r1,ty,q1⟩=>?_);obtain⟨h1,h2⟩:=zh8 I1 r1 ty;refine⟨T,id,pa,slot,hty,h1,h2,?_⟩;have hA:=ha cpos pins s1 σ H1 _ I1 q1;rw[hs]at hA ⊢;refine Calls.callWith_builtin (by show(false||(backTo cpos (starEach es X.env)).any (·.1))=false;rw[hplain] <;> rfl) (Calls.evalArgs_plain ?_);exact thn hA λus s2 ⟨vs,H2,I2,r2,q2⟩=>hm pins s2 σ H2 x vs v us Q I2 r1 r2 q2
end
end L2
namespace L2
open PySem PySem.Spec PyProof.Rows
noncomputable def MtM(X:Cx)(id:String)(r:V->List V->Hp->VK->Prop):Prop :=
 ∀(pins:List (Addr×Obj)) (s:Shared) (σ:St) (H:Hp) (x:V) (xs:List V) (v:Value) (us:List Value) (Q:VK),Inv X pins σ H s->RelV x v->Vals xs us->r x xs H Q->
  wpAny (model X.prog X.w) X.A (call (.builtin id) (v::us)) (EP X pins σ Q) X.xe s
theorem Vals.one:∀ {x:V} {us:List Value},Vals [x] us->∃u,us=[u]/\RelV x u
 |_,_,.cons r .nil=>⟨_,rfl,r⟩
theorem Vals.eraseIdx:∀ {xs:List V} {us:List Value} (i:Nat),Vals xs us->Vals (xs.eraseIdx i) (us.eraseIdx i)
 |_,_,_,.nil=>.nil
 |_,_,0,.cons _ t=>t
 |_,_,i+1,.cons r t=>.cons r (Vals.eraseIdx i t)
theorem Vals.reverse{xs:List V}{us:List Value}(h:Vals xs us):Vals xs.reverse us.reverse:=by
 induction h with
 |nil=>exact .nil
 |cons r t ih=>rw[List.reverse_cons,List.reverse_cons];exact Vals.append ih (.cons r .nil)
theorem Vals.rep{xs:List V}{us:List Value}(h:Vals xs us):∀k:Nat,Vals (List.replicate k xs).flatten (List.replicate k us).flatten
 |0=>.nil
 |k+1=>by
  rw[xAH,xAH,List.flatten_cons,List.flatten_cons];exact Vals.append h (Vals.rep h k)
theorem ydU{α:Type}:∀(l:List α) (i:Nat),(l.eraseIdx i).length<=l.length
 | [],_=>xA4 _
 |_::_,0=>Nat.le_succ _
 |_::r,i+1=>Nat.succ_le_succ (ydU r i)
theorem zcW(its:List Value):∀(k:Nat) (acc:List Value),
  List.foldl (λx1 x2=>x1++x2) acc.toArray (List.replicate k its.toArray)=(acc++(List.replicate k its).flatten).toArray
 |0,acc=>by simp
 |k+1,acc=>by
  have e:acc.toArray++its.toArray=(acc++its).toArray:=by simp
  have e2:(acc++its)++(List.replicate k its).flatten=acc++(List.replicate (k+1) its).flatten:=by
   rw[xAH,List.flatten_cons,xB5]
  rw[<-e2,<-zcW its k (acc++its),<-e,xAH,List.foldl_cons]
section
variable {X:Cx} {pins:List (Addr×Obj)} {σ:St} {H:Hp} {s:Shared} {l b:Addr} {xs ys zs:List V}
theorem Inv.lset{its its':List Value}{n:Nat}{f:Array Value->Array Value}{t':Nat}(I:Inv X pins σ H s)(hH:H l=some (.lst xs))
  (e:s.heap.get? l=some { cls:=.type "list",data:=.seq its.toArray n }) (hf:f its.toArray=its'.toArray) (hv:Vals ys its') (hz:ys.length<=sizeLine) :
  Inv X pins σ (upd H l (.lst ys)) { s with heap:=s.heap.update l (Obj.mapSeq f),toks:=t' }:=by
 have q:=PySem.IsL.update e f;rw[hf]at q;refine I.write (x:=l) (e:=l) (by rw[hH];exact trivial) (.inl rfl) (λb' u hb hu=>(xAW s.heap (Obj.mapSeq f) (Ne.symm hb)).trans hu) ⟨_,q⟩ ?_;exact⟨hz,its',_,hv,q⟩
theorem Inv.lnew{its:List Value}{t':Nat}(I:Inv X pins σ H s)(hv:Vals ys its)(hz:ys.length<=sizeLine) :
  Inv X pins σ (upd H s.heap.objs.size (.lst ys)) { s with heap:=s.heap.push { cls:=.type "list",data:=.seq its.toArray },toks:=t' } :=
 I.laid (λ_ _ q=>xA2 _ q) (xA4 _) ⟨hz,its,0,hv,xA6 _ rfl⟩
theorem Inv.fresh(I:Inv X pins σ H s):H s.heap.objs.size=none:=I.hok.fresh (xA4 _)
theorem Inv.lstM(I:Inv X pins σ H s)(hH:H l=some (.lst xs)):xs.length<=sizeLine/\∃(its:List Value) (n:Nat),Vals xs its/\xs.length=its.length/\s.heap.get? l=some { cls:=.type "list",data:=.seq its.toArray n }:=by
 obtain⟨z,its,n,r,e⟩:=I.hok l _ hH;exact⟨z,its,n,r,r.length,e⟩
theorem zeX{n:Nat}(h:n<=sizeLine):Builtin.List.listTooLong n=false:=by
 unfold Builtin.List.listTooLong;exact xBt (by lia)
end
section
variable {X:Cx}
noncomputable def zg8:V->List V->Hp->VK->Prop:=λx vs H Q=>∃l xs y,x = .ref l/\vs=[y]/\H l=some (.lst xs)/\xs.length<sizeLine/\Q .non (upd H l (.lst (xs++[y])))
theorem yb6:MtM X "list.append" zg8:=by
 intro pins s σ H x vs v us Q I rx rv h;obtain⟨l,xs,y,rfl,rfl,hH,hz,q⟩:=h;cases rx;obtain⟨u,rfl,ru⟩:=rv.one;obtain⟨z,its,n,r,hl,e⟩:=I.lstM hH;refine call_meets F.slot_list_append ⟨_,e,rfl⟩ F.entry_list_append (F.args_list_append_2 _ _) (PySem.list_append l its.toArray n u (by rw[xAa];lia)) ⟨e,?_⟩;refine⟨.non,_,I.lset (its':=its++[u]) hH e (by simp) (r.append (.cons ru .nil)) ?_,rfl,q⟩;rw[xAt,List.length_singleton];lia
noncomputable def zhf:V->List V->Hp->VK->Prop:=λx vs H Q=>∃l b xs zs,x = .ref l/\vs=[.ref b]/\H l=some (.lst xs)/\H b=some (.lst zs)/\xs.length+zs.length<=sizeLine/\Q .non (upd H l (.lst (xs++zs)))
theorem zgc:MtM X "list.extend" zhf:=by
 intro pins s σ H x vs v us Q I rx rv h;obtain⟨l,b,xs,zs,rfl,rfl,hH,hB,hz,q⟩:=h;cases rx;obtain⟨u,rfl,ru⟩:=rv.one;cases ru;obtain⟨z,its,n,r,hl,e⟩:=I.lstM hH;obtain⟨z2,its2,n2,r2,hl2,e2⟩:=I.lstM hB;have hsz:its.toArray.size+its2.toArray.size<=sizeLine:=by rw[xAa,xAa];lia
 have hlong:¬ (!its.toArray.isEmpty&&Builtin.List.listTooLong (its.toArray.size+its2.toArray.size))=true:=by
  rw[zeX hsz,Bool.and_false];exact xAo
 refine call_meets F.slot_list_extend ⟨_,e,rfl⟩ F.entry_list_extend (F.args_list_extend_2 _ _)
  (AutoSeq1.list_extend_list_list_0 l its.toArray n b its2.toArray n2 hlong (by rw[xAa];lia) (by lia)) ⟨e,e2,?_⟩
 refine⟨.non,_,I.lset (its':=its++its2) hH e (by simp) (r.append r2) ?_,rfl,q⟩;rw[xAt];lia
noncomputable def yh4:V->List V->Hp->VK->Prop:=λx vs H Q=>∃l xs i k y,x = .ref l/\vs=[.int i]/\H l=some (.lst xs)/\-(2^63)<=i/\i<2^63/\seqIndex? i xs.length=some k/\xs[k]?=some y/\Q y (upd H l (.lst (xs.eraseIdx k)))
theorem zgo:MtM X "list.pop" yh4:=by
 intro pins s σ H x vs v us Q I rx rv h;obtain⟨l,xs,i,k,y,rfl,rfl,hH,h1,h2,hk,hy,q⟩:=h;cases rx;obtain⟨u,rfl,ru⟩:=rv.one;obtain⟨t,rfl⟩:=ru;obtain⟨z,its,n,r,hl,e⟩:=I.lstM hH;obtain⟨w,hw,rw'⟩:=r.get hy;refine call_meets F.slot_list_pop ⟨_,e,rfl⟩ F.entry_list_pop (F.args_list_pop_2 _ _)
  (MeetsSeq.list_pop_at l its.toArray n i t k w (fitsIndex_both h1 h2) (by rw[xAa,<-hl];exact hk) (by rw[<-Array.getElem?_toList];exact hw) (by rw[xAa];lia)) ⟨e,?_⟩
 refine⟨y,_,I.lset (its':=its.eraseIdx k) hH e ?_ (r.eraseIdx k) ?_,rw',q⟩
 ·show its.toArray.eraseIdxIfInBounds k=(its.eraseIdx k).toArray;rw[List.eraseIdxIfInBounds_toArray]
 ·have:=ydU xs k;lia
noncomputable def rCat:R2:=λx y H Q=>∃l b xs zs,x = .ref l/\y = .ref b/\H l=some (.lst xs)/\H b=some (.lst zs)/\xs.length+zs.length<=sizeLine/\∀p,H p=none->Q (.ref p) (upd H p (.lst (xs++zs)))
theorem zc8:OpR X (binaryOp .Add) rCat:=by
 intro pins s σ H x y v u Q I rx ry h;obtain⟨l,b,xs,zs,rfl,rfl,hH,hB,hz,q⟩:=h;cases rx;cases ry;obtain⟨z,its,n,r,hl,e⟩:=I.lstM hH;obtain⟨z2,its2,n2,r2,hl2,e2⟩:=I.lstM hB;refine PySem.P.add_list e e2 ?_ (by rw[xAa,xAa];lia);have ea:its.toArray++its2.toArray=(its++its2).toArray:=by simp
 rw[ea];exact⟨.ref _,_,I.lnew (t':=s.toks) (r.append r2) (by rw[xAt];lia),rfl,q _ I.fresh⟩
noncomputable def rRep:R2:=λx y H Q=>∃l k xs,x = .ref l/\y = .int k/\H l=some (.lst xs)/\-(2^63)<=k/\k<2^63/\xs.length*k.toNat<=sizeLine/\
 ∀p,H p=none->Q (.ref p) (upd H p (.lst (List.replicate k.toNat xs).flatten))
theorem zgf{α:Type}(xs:List α)(k:Nat):(List.replicate k xs).flatten.length=k*xs.length:=by
 induction k with
 |zero=>simp
 |succ k ih=>rw[xAH,List.flatten_cons,xAt,ih,Nat.succ_mul,Nat.add_comm]
theorem ycn:OpR X (binaryOp .Mult) rRep:=by
 intro pins s σ H x y v u Q I rx ry h;obtain⟨l,k,xs,rfl,rfl,hH,h1,h2,hz,q⟩:=h;cases rx;obtain⟨t,rfl⟩:=ry;obtain⟨z,its,n,r,hl,e⟩:=I.lstM hH;have hlen:its.toArray.size*k.toNat<=sizeLine:=by rw[xAa,<-hl];exact hz
 have hcap:¬ its.toArray.size*k.toNat>(2^63-1)/8:=by
  have:(sizeLine:Nat)<=(2^63-1)/8:=by decide
  lia
 have hfit:¬ (!Builtin.List.listFitsIndex k)=true:=by
  rw[fitsIndex_both h1 h2];exact xAo
 have hlong:¬ Builtin.List.listTooLong (its.toArray.size*k.toNat)=true:=by
  rw[zeX hlen];exact xAo
 have hnew:List.foldl (λx1 x2=>x1++x2) #[] (List.replicate (if its.toArray.isEmpty=true then 0 else k.toNat) its.toArray)=(List.replicate k.toNat its).flatten.toArray:=by
  have f0:∀m:Nat,List.foldl (λx1 x2=>x1++x2) #[] (List.replicate m its.toArray)=(List.replicate m its).flatten.toArray:=λm=>by
   have:=zcW its m [];rw[List.nil_append]at this;exact this
  rw[f0];cases its with
  |nil=>simp
  |cons a r'=>rw[if_neg (by simp)]
 refine wpAny_binaryOp_repeat_ref (T:="list") (U:="int") (by decide) ⟨_,e,rfl⟩ (λs'=>typeIs_int s' k t) noFill_list_mul F.fills_int_mul F.slot_int_rmul repeat_list F.slot_int_index.lookup
  (call_meets F.slot_int_rmul (typeIs_int s k t) F.entry_int_rmul (F.args_int_rmul_2 _ _) (int___rmul___int_list k t l its.toArray n)
   ⟨e,rfl,⟨_,e,rfl⟩,call_meets F.slot_list_mul ⟨_,e,rfl⟩ F.entry_list_mul (F.args_list_mul_2 _ _) (AutoListH.list___mul___list_int_3 l its.toArray n k t hfit hcap hlong) ⟨e,?_⟩⟩)
 rw[hnew];exact⟨.ref _,_,I.lnew (t':=s.toks) (r.rep k.toNat) (by rw[zgf,xBb];exact hz),rfl,q _ I.fresh⟩
end
section
variable {prog:Program} {w:World} {A:Around} {E:Value->Shared->Prop} {s:Shared}
end
section
variable {X:Cx}
end
end L2
namespace Att
open PySem PySem.W PySem.Calls PyProof.Rows
theorem zcX{P:Params}{h:Heap}:∀(ns:List Int) (vs:List Value),WellAll P h vs (ns.map WData.int)->IntsAre vs ns:=by
 intro ns
 induction ns with
 |nil=>
  intro vs w;rw[List.map_nil]at w;cases w;exact .nil
 |cons n ns ih=>
  intro vs w;rw[List.map_cons]at w;cases w with
  |cons a b=>
   cases a;exact .cons _ _ (ih _ b)
theorem zga{l:OpenLaw}{n:Nat}(hn:l.most=some n){P:Params}{h:Heap}{args:List WData}{vals:List Value}
  (hpre:l.row.toRowW.claim.pre args=true) (hwl:WellAll P h vals args) :
  ∃a vs ns,vals=[Value.ref a]/\args=[WData.list (ns.map WData.int)]/\h.get? a=some { cls:=.type "list",data:=.seq vs.toArray }/\IntsAre vs ns/\ns.length<=n:=by
 have hsh:WShape.hasAll [] args [.list .int]=true:=(pre_splitW hpre).1;have hc:l.pre.holds [] { args:=args }=true:=(pre_splitW hpre).2;obtain⟨d,r,rfl,h1,h2⟩:=hasAllW_cons hsh;obtain rfl:=hasAllW_nil h2;obtain⟨xs,rfl,h3⟩:=hasW_list h1;obtain⟨ns,rfl⟩:=items_int h3;have hlen:ns.length<=n:=by
  unfold OpenLaw.pre at hc;have h4:(WTm.not (.lt (.lit (.int (n:Int))) (.len (.arg 0)))).holds [] { args:=[.list (ns.map .int)] }=true:=by
   have h4:=(holds_andW hc).1;rw[hn]at h4;exact h4
  have h5:=condW_of h4 (w_not (w_lt w_lit (w_len_list (w_arg rfl))));rw[xA0]at h5;refine Nat.le_of_not_lt λq=>?_
  have q':(n:Int)<((ns.length:Nat):Int):=by lia
  first
   |(rw[xAG q']at h5;exact absurd h5 (by decide))
   |(simp at h5;lia)
 cases hwl with
 |cons w1 w2=>
  cases w2;cases w1 with
  |list ho hall=>exact⟨_,_,ns,rfl,rfl,ho,zcX ns _ hall,hlen⟩
theorem yf7(l:OpenLaw)(args:List WData):l.row.toRowW.claim.post args (.bool true) args=true :=
 postW_of (r:=l.row.toRowW) (X:=(true==true))
  (show WShape.has [] (.bool true) .bool=true by first|rfl|decide|simp[WShape.has,WShape.arms,WShape.armsAll])
  (show(WTm.eq .res (.lit (.bool true))).value [] { args:=args,res:=some (.bool true),after:=args }=some (.bool (true==true)) from w_eq_bool (w_res rfl) w_lit) rfl
theorem attach_call{l:OpenLaw}{n:Nat}{q:Program}{loose:List Str}{XP:(Str->Option Value)->Heap->Prop}{YP:World->Heap->Prop}{d:DefRec}
  (hn:l.most=some n) (hdf:d.params.defaults=[])
  (call:∀(w:World) (s₀ s₁:Shared) (mg mb:Str->Option Value) (fa:Addr) (o:Obj) (pm cd doc:Value) (a:Addr) (vs:List Value) (ns:List Int),
   Ground q loose [] XP w s₀ mg mb s₁.heap->YP w s₁.heap->
   s₁.heap.get? fa=some o->o.data = .func (docDef d.name d.params d.body d.scope pm cd doc)->s₁.heap.CodeRec cd d.name->mg d.name=some (.ref fa)->
   s₁.heap.get? a=some { cls:=.type "list",data:=.seq vs.toArray }->IntsAre vs ns->ns.length<=n->s₁.gens = #[]->
   codeAny (model l.prog w) callerA (.call (.ref fa) ⟨[.ref a],[]⟩) (λr s'=>r = .ok (.ret (.bool true))/\OldK s₁.heap s'.heap/\s'.os=s₁.os/\AllBare s'.gens) s₁) :
  WalkO q loose XP YP l.row.toRowW d [] (λf vs=>PySem.call f vs):=by
 intro w s₀ s₁ mg mb G Y fa o pm cd doc dV kV ho hd hcd hD hmg hg args vals as hpre hlay hrd hwl hlo;obtain rfl:dV = .none:=Dflts.none hD hdf;obtain rfl:kV = .none:=Dflts.noKw hD;obtain⟨a,vs,ns,rfl,rfl,hobj,hints,hlen⟩:=zga hn hpre hwl;refine enter_call (codeAny_mono (call w s₀ s₁ mg mb fa o pm cd doc a vs ns G Y ho (fd_plain hd) hcd hmg hobj hints hlen hg) λr s' hq=>?_);obtain⟨rfl,h2,h3,h4⟩:=hq;exact⟨.inl ⟨.bool true,.bool true,[],rfl,λ_=>rfl,.bool true,yf7 l _,λ_=>⟨List.Pairwise.nil,λ_ hm=>(nomatch hm)⟩⟩,h2,h3,h4⟩
section
variable {prog:Program} {w:World} {A:Around} {E:Value->Shared->Prop} {s:Shared} {K:Frag}
end
end Att
namespace L2
open PySem PySem.Spec PyProof.Rows
theorem ydK:∀ {vs:List Value} {ns:List Int},IntsAre vs ns->Vals (ns.map V.int) vs
 |_,_,.nil=>.nil
 |_,_,.cons n t h=>.cons ⟨t,rfl⟩ (ydK h)
noncomputable def Only(H:Hp):Prop:=∀b,H b=none\/∃o xs,H b=some (.frz o (.lst xs))
theorem zgP{P:Program}{w:World}{K:PySem.W.Frag}{mg mb:Str->Option Value}{CX:CXT}{k:Nat}{fa a:Addr}{fd:FuncData}{x:Str}{sp:Sp}{s₁:Shared}{vs:List Value}{ns:List Int}
  (KX:K.In s₁.heap) (hns:s₁.heap.Ns mainGlobals mg) (hb:s₁.heap.Ns builtinsNs mb) (hbb:∀x:Str,x≠"__name__"->mb x=bootBuiltins x) (hlim:s₁.heap.NoLimit) (hg:s₁.gens = #[])
  (ha:s₁.heap.get? a=some { cls:=.type "list",data:=.seq vs.toArray }) (hi:IntsAre vs ns) (hl:ns.length<=sizeLine) (hr:Room k callerA)
  (F:∀base:Heap,K.In base->base.Ns mainGlobals mg->FnOk P w K mg base CX k fa fd [x] sp) (hbind:∀(s:Shared) (u:Value),BindsTo s fd ⟨[u],[]⟩ [(x,u)])
  (hsp:∀H:Hp,Only H->SqL K H a (ns.map V.int)->sp [.ref a] H (λv _=>v = .bl true) λ_ _ _=>False)
  (hCX:∀H e s',CX [] H s₁ (λ_ _ _=>False) e s'->False) :
  codeAny (model P w) callerA (.call (.ref fa) ⟨[.ref a],[]⟩) (λr s'=>r = .ok (.ret (.bool true))/\OldK s₁.heap s'.heap/\s'.os=s₁.os/\AllBare s'.gens) s₁:=by
 have rv:=ydK hi;have lenV:=hi.length;have core:∀H:Hp,Only H->SqL K H a (ns.map V.int)->HOk P w H s₁.heap->(∀b,H b≠none->b=a)->(H a≠none->K.lookup a=none)->
   codeAny (model P w) callerA (.call (.ref fa) ⟨[.ref a],[]⟩) (λr s'=>r = .ok (.ret (.bool true))/\OldK s₁.heap s'.heap/\s'.os=s₁.os/\AllBare s'.gens) s₁:=by
  intro H hO hS hok hA hK;have base_of:∀ {b:Addr} {o:Obj},s₁.heap.get? b=some o->H b=none->(hidT s₁.heap H).get? b=some o:=λe n=>ygu e n
  have noA:∀ {b:Addr} {o:Obj} {es:Array DictEntry} {ep:Nat},s₁.heap.get? b=some o->o.data = .dict es ep->H b=none:=λ{b o es ep} e d=>by
   cases q:H b with
   |none=>rfl
   |some u=>
    have e':b=a:=hA b (by rw[q];simp);subst e';rw[ha]at e;cases e;have d':Data.seq vs.toArray _=Data.dict es ep:=d;cases d'
  have nsK:∀ {b:Addr} {m:Str->Option Value},s₁.heap.Ns b m->(hidT s₁.heap H).Ns b m:=λ{b m} ⟨o,es,ep,e,d,r⟩=>⟨o,es,ep,base_of e (noA e d),d,r⟩
  have hKb:K.In (hidT s₁.heap H):=λb o e=>base_of (KX b o e) (by
   cases q:H b with
   |none=>rfl
   |some u=>
    have e':b=a:=hA b (by rw[q];simp);subst e';rw[hK (by rw[q];simp)]at e;cases e)
  have hM:Mod K mg (hidT s₁.heap H):=⟨hKb,nsK hns,⟨mb,nsK hb,hbb⟩,let ⟨mc,h1,h2⟩:=hlim;⟨mc,nsK h1,h2⟩⟩
  have e0:Env0 P w K mg (hidT s₁.heap H) callerA [] s₁ H:=⟨rfl,hM,λb o e=>zhG e,Nat.le_of_eq (zfD _ _),trivial,λb hb=>absurd (show b∈([]:List Addr) from hb) (by simp),hok,.of_eq hg⟩
  refine codeAny_mono ((F _ hKb (nsK hns)).run callerA [] s₁ H ⟨[.ref a],[]⟩ [.ref a] [.ref a] _ _ hr e0 (hbind s₁ (.ref a)) (.cons rfl .nil) (hsp H hO hS)) λr s' h=>?_
  cases r with
  |error e=>exact(hCX H e s' h).elim
  |ok fl=>
   cases fl with
   |next=>exact False.elim h
   |brk=>exact False.elim h
   |cont=>exact False.elim h
   |ret u=>
    obtain⟨v,H',os,bare,un,hok',r',q⟩:=h;have q':v = .bl true:=q;subst q';obtain rfl:u=Value.bool true:=r';refine⟨rfl,OldK.of_keep λb o e=>?_,os,bare⟩;cases q:H b with
    |none=>exact un.keep b o e q (by intro z;exact absurd (show b∈([]:List Addr) from z) (by simp)) (by simp)
    |some u=>
     rcases hO b with z |⟨ob,xs,z⟩
     ·rw[q]at z;cases z
     ·have z2:=un.frzs b ob _ z;obtain⟨e1,_⟩:=hok b _ z;obtain⟨e2,_⟩:=hok' b _ z2;rw[e]at e1;cases e1;exact e2
 cases hk:K.lookup a with
 |some o=>
  have e:=KX a o hk;rw[ha]at e;cases e;refine core (λ_=>none) (λ_=>.inl rfl) (.inr ⟨_,vs.toArray,_,hk,rfl,rfl,rfl,by rw[xAa,lenV];exact hl,by simpa using rv⟩) (λb u z=>by have z':(none:Option HO)=some u:=z;cases z') (λb z=>absurd rfl z) λz=>absurd rfl z
 |none=>
  refine core (λb=>if b=a then some (.frz { cls:=.type "list",data:=.seq vs.toArray } (.lst (ns.map V.int))) else none) (λb=>?_) (.inl (.inr ⟨{ cls:=.type "list",data:=.seq vs.toArray },if_pos rfl⟩)) (λb u z=>?_) (λb z=>?_) λ_=>hk
  ·by_cases hb:b=a
   ·exact .inr ⟨_,_,if_pos hb⟩
   ·exact .inl (if_neg hb)
  ·by_cases hb:b=a
   ·have z':=(if_pos hb).symm.trans z;cases z';subst hb;exact⟨ha,by rw[xA0];exact hl,vs,_,rv,ha⟩
   ·have z':=(if_neg hb).symm.trans z;cases z'
  ·by_cases hb:b=a
   ·exact hb
   ·exact absurd (if_neg hb) z
end L2
namespace L2
open PySem PySem.Spec PyProof.Rows
noncomputable abbrev KOf{K:PySem.W.Frag}{h:Heap}(_:K.In h):PySem.W.Frag:=K
theorem walk_of{l:PySem.W.OpenLaw}{n k:Nat}{q:Program}{loose:List Str}{XP:(Str->Option Value)->Heap->Prop}{YP:World->Heap->Prop}{d:DefRec}{K:Params->PySem.W.Frag}{CX:World->CXT}{sp:World->Sp}{x:Str}
  (hn:l.most=some n) (hn2:n<=sizeLine) (hdf:d.params.defaults=[]) (hr:Room k callerA)
  (hY:∀(w:World) (h:Heap),YP w h->(K w.params).In h)
  (F:∀(w:World) (mg:Str->Option Value) (fa:Addr) (h:Heap),(K w.params).In h->h.Ns mainGlobals mg->mg d.name=some (.ref fa)->
   ∃fd:FuncData,(∀(s:Shared) (u:Value),BindsTo s fd ⟨[u],[]⟩ [(x,u)])/\
    ∀base:Heap,(K w.params).In base->base.Ns mainGlobals mg->FnOk l.prog w (K w.params) mg base (CX w) k fa fd [x] (sp w))
  (hsp:∀(w:World) (H:Hp) (a:Addr) (ns:List Int),ns.length<=n->Only H->SqL (K w.params) H a (ns.map V.int)->sp w [.ref a] H (λv _=>v = .bl true) λ_ _ _=>False)
  (hCX:∀(w:World) (H:Hp) (s:Shared) (e:Value) (s':Shared),CX w [] H s (λ_ _ _=>False) e s'->False) :
  PySem.W.WalkO q loose XP YP l.row.toRowW d [] (λf vs=>PySem.call f vs):=by
 refine Att.attach_call hn hdf λw s₀ s₁ mg mb fa o pm cd doc a vs ns G Y ho hd hcd hmg hobj hints hlen hg=>?_
 have KX:=hY w _ Y;obtain⟨fd,hb,hF⟩:=F w mg fa _ KX G.T.g hmg;exact zgP KX G.T.g G.T.b G.T.builtins G.T.nolimit hg hobj hints (xAB hlen hn2) hr hF hb (λH hO hS=>hsp w H a ns hlen hO hS) λH e s'=>hCX w H s₁ e s'
end L2
namespace L2
open PySem PySem.Spec PyProof.Rows
noncomputable def yci(s:Stmt):Arguments:=match s with
 | .FunctionDef _ a _ _ _ _ _ _ _ _=>a
 |_=>{ posonlyargs:=[],args:=[],vararg:=none,kwonlyargs:=[],kw_defaults:=[],kwarg:=none,defaults:=[] }
noncomputable def ybV(s:Stmt):List Stmt:=match s with
 | .FunctionDef _ _ b _ _ _ _ _ _ _=>b
 |_=>[]
noncomputable def zae(s:Stmt):Scope:=match s with
 | .FunctionDef _ _ _ _ _ _ sc _ _ _=>sc
 |_=>{ kind:=.function,names:=[],isGenerator:=false,isCoroutine:=false }
noncomputable abbrev CX0:CXT:=λ_ _ _ _ _ _=>False
noncomputable abbrev E0:XK:=λ_ _ _=>False
theorem zih{X:Cx}:zfq CX0 X E0:=λ_ _ _ _ _ _ _ h=>h.elim
structure Fun(K:PySem.W.Frag)(x qual:Str)(st:Stmt)(f:Addr)(fd:FuncData):Prop where
 ex:∃(oc:Value) (od:Option Addr) (kV doc pm:Value) (an:Option Addr) (cdv ct:Value) (osl:Array (Option Value)),
  fd=PySem.W.fnOf x qual (yci st) (ybV st) (zae st) .none kV doc pm an cdv ct/\K.lookup f=some ⟨oc,od,.func fd,osl⟩/\PySem.W.codeIn K cdv qual=true
 kp:PySem.W.keepIn K (.ref f)=true
section
variable {P:Program} {w:World} {K:PySem.W.Frag} {mg:Str->Option Value} {base:Heap}
theorem Fun.ok{x qual:Str}{st:Stmt}{f:Addr}{fd:FuncData}{N ps:List Str}{k:Nat}{sp:Sp}(F:Fun K x qual st f fd)(S:yah N ps (zae st))(len:∀vs H Q E,sp vs H Q E->vs.length=ps.length)
  (hbody:∀(cdv:Value) (A:Around) (outer:List Env) (s:Shared) (H:Hp) (vs:List V) (Q:VK) (E:XK),Room k (A.deeper (envOfC qual (zae st) s.heap.objs.size f cdv))->sp vs H Q E->
   ∃t,PSs (cxOf CX0 P w K mg base N qual (zae st) f cdv A outer s H E).nox (ybV st) t/\t { nx:=λ_ H'=>Q .non H',rt:=Q } (zd0 N vs) H):FnOk P w K mg base CX0 (k+1) f fd ps sp:=by
 obtain⟨oc,od,kV,doc,pm,an,cdv,ct,osl,rfl,lk,hcd⟩:=F.ex;refine zio lk hcd S len λA outer s H vs Q E hr hsp=>?_
 obtain⟨t,h,q⟩:=hbody cdv A outer s H vs Q E hr hsp;exact⟨t,h.nox,q⟩
theorem Fun.binds{x qual:Str}{st:Stmt}{f:Addr}{fd:FuncData}{ps:List Str}(F:Fun K x qual st f fd)
  (h:∀(kV doc pm:Value) (an:Option Addr) (cdv ct:Value) (us:List Value),us.length=ps.length->bindArgs (PySem.W.fnOf x qual (yci st) (ybV st) (zae st) .none kV doc pm an cdv ct) ⟨us,[]⟩=pure (ps.zip us)):ye8 K fd ps []:=by
 obtain⟨oc,od,kV,doc,pm,an,cdv,ct,osl,rfl,lk,hcd⟩:=F.ex;exact .all (h kV doc pm an cdv ct)
theorem zgZ{x qual:Str}{st:Stmt}{f:Addr}{oc:Value}{od an:Option Addr}{osl:Array (Option Value)}{kV doc pm cdv ct:Value}(l:K.lookup f=some ⟨oc,od,.func (PySem.W.fnOf x qual (yci st) (ybV st) (zae st) .none kV doc pm an cdv ct),osl⟩)
  (c:PySem.W.codeIn K cdv qual=true) (k:PySem.W.keepIn K (.ref f)=true):Fun K x qual st f (PySem.W.fnOf x qual (yci st) (ybV st) (zae st) .none kV doc pm an cdv ct):=⟨⟨oc,od,kV,doc,pm,an,cdv,ct,osl,rfl,l,c⟩,k⟩
end
theorem zbq{A:Around}{k:Nat}(hr:Room k A):A.units+1<cLine:=Nat.lt_of_le_of_lt (Nat.add_le_add_left (by decide:1<=64) _) hr.units
theorem yao{n:Nat}(h:n<=1000):n<sizeLine:=Nat.lt_of_le_of_lt h (by decide)
section
variable {X:Cx}
theorem pv(i:Nat){x:Str}{pos:Pos}(hN:X.N[i]?=some x:=by rfl)(hv:Vis X.env.scope x:=by first|exact Or.inl rfl|exact Or.inr (Or.inl rfl)|exact Or.inr (Or.inr rfl))(hd:(x==("__debug__":Str))=false:=by decide)
  (hcd:(x==("__classdict__":Str))=false:=by decide):PE X (.Name x pos) (tVar i):=zhL hN hv hd hcd
end
theorem ite2{c A B:Prop}[Decidable c](h1:c->A)(h2:¬ c->B):if c then A else B:=by
 by_cases h:c
 ·rw[if_pos h];exact h1 h
 ·rw[if_neg h];exact h2 h
noncomputable def Same(H H':Hp):Prop:=∀b o,H b=some o->H' b=some o
theorem Same.refl(H:Hp):Same H H:=λ_ _ h=>h
theorem Same.trans{H H1 H2:Hp}(a:Same H H1)(b:Same H1 H2):Same H H2:=λc o h=>b c o (a c o h)
theorem Same.free{H H':Hp}(e:Same H H'){l:Addr}(h:H' l=Option.none):H l=Option.none:=by
 cases q:H l with
 |none=>rfl
 |some o=>
  rw[e l o q]at h;cases h
theorem Same.seq{K:PySem.W.Frag}{H H':Hp}{a:Addr}{xs:List V}(e:Same H H')(h:SqL K H a xs):SqL K H' a xs:=by
 rcases h with(h |⟨o,h⟩)|h
 ·exact .inl (.inl (e _ _ h))
 ·exact .inl (.inr ⟨o,e _ _ h⟩)
 ·exact .inr h
end L2
end
section
-- text: PpDict
namespace L2
open PySem PySem.Spec PyProof.Rows
section
variable {κ:Type} [DecidableEq κ]
noncomputable def valV(kvs:List (κ×V))(k:κ):Option V:=(kvs.find? λkv=>decide (kv.1=k)).map (·.2)
noncomputable def putK(kvs:List (κ×V))(k:κ)(v:V):List (κ×V) :=
 if (kvs.any λkv=>decide (kv.1=k))=true then kvs.map (λkv=>if kv.1=k then(kv.1,v) else kv) else kvs++[(k,v)]
theorem zeR{p:κ×V}{r:List (κ×V)}{k:κ}(e:p.1=k):valV (p::r) k=some p.2:=by simp[valV,List.find?_cons,e]
theorem yeR{p:κ×V}{r:List (κ×V)}{k:κ}(e:¬ p.1=k):valV (p::r) k=valV r k:=by simp[valV,List.find?_cons,e]
theorem zev(kvs:List (κ×V))(k:κ)(v:V):(putK kvs k v).length<=kvs.length+1:=by
 unfold putK;split
 ·rw[xA0];lia
 ·rw[xAt,xAO,List.length_nil];lia
theorem KV.val{kvs:List (κ×V)}{vs:List (κ×Value)}(r:KV kvs vs)(k:κ):RelO (valV kvs k) (valueAt vs k):=by
 unfold KV at r
 induction r with
 |nil=>exact True.intro
 |@cons p q ps qs h t ih=>
  obtain⟨h1,h2⟩:=h;by_cases e:p.1=k
  ·have e':q.1=k:=h1.symm.trans e;have b:valueAt (q::qs) k=some q.2:=by simp[valueAt,List.find?_cons,e']
   rw[zeR e,b];exact h2
  ·have e':¬ q.1=k:=λz=>e (h1.trans z)
   have b:valueAt (q::qs) k=valueAt qs k:=by simp[valueAt,List.find?_cons,e']
   rw[yeR e,b];exact ih
theorem KV.any{kvs:List (κ×V)}{vs:List (κ×Value)}(r:KV kvs vs)(k:κ):(kvs.any λkv=>decide (kv.1=k))=vs.any λkv=>decide (kv.1=k):=by
 unfold KV at r
 induction r with
 |nil=>rfl
 |cons h t ih=>rw[List.any_cons,List.any_cons,ih,h.1]
theorem KV.repl{kvs:List (κ×V)}{vs:List (κ×Value)}(r:KV kvs vs)(k:κ){y:V}{u:Value}(ry:RelV y u) :
  KV (kvs.map λkv=>if kv.1=k then(kv.1,y) else kv) (vs.map λkv=>if kv.1=k then(kv.1,u) else kv):=by
 unfold KV at r ⊢
 induction r with
 |nil=>exact .nil
 |@cons p q ps qs h t ih=>
  rw[List.map_cons,List.map_cons];refine .cons ?_ ih;obtain⟨h1,h2⟩:=h;by_cases e:p.1=k
  ·rw[if_pos e,if_pos (h1.symm.trans e)];exact⟨h1,ry⟩
  ·rw[if_neg e,if_neg (λz=>e (h1.trans z))];exact⟨h1,h2⟩
theorem KV.put{kvs:List (κ×V)}{vs:List (κ×Value)}(r:KV kvs vs)(k:κ){y:V}{u:Value}(ry:RelV y u):KV (putK kvs k y) (stored vs k u):=by
 unfold putK stored;rw[r.any k];by_cases e:(vs.any λkv=>decide (kv.1=k))=true
 ·rw[if_pos e,if_pos e];exact r.repl k ry
 ·rw[if_neg e,if_neg e];exact Paired.snoc r ⟨rfl,ry⟩
theorem KV.keys{kvs:List (κ×V)}{vs:List (κ×Value)}(r:KV kvs vs):kvs.map (·.1)=vs.map (·.1):=by
 unfold KV at r
 induction r with
 |nil=>rfl
 |cons h t ih=>rw[List.map_cons,List.map_cons,ih,h.1]
end
theorem ygN{P:Program}{w:World}{k:Key}{u:Value}(r:RelV (kV k) u):(yaH P w).is k u=true:=by
 cases k with
 |inl i=>obtain⟨t,e⟩:=(show ∃t,u=Value.int i t from r);subst e;exact zej P w i t
 |inr x=>obtain⟨t,e⟩:=(show ∃t,u=Value.str x t from r);subst e;exact zey P w x t
theorem zdN{P:Program}{w:World}:∀ {ks:List Key} {us:List Value},Vals (ks.map kV) us->ItemsAre (yaH P w) ks us
 | [],_,r=>by rw[List.map_nil]at r;cases r;exact .nil
 |k::ks,_,r=>by
  rw[List.map_cons]at r;cases r with
  |cons h t=>exact .cons (ygN h) (zdN t)
noncomputable abbrev KT(H:Hp):List (List Key×V)->List (List Key×Addr×Value)->Prop:=Paired λp q=>p.1=q.1/\H q.2.1=some (.tup (p.1.map kV))/\RelV p.2 q.2.2
theorem KT.val{H:Hp}{kvs:List (List Key×V)}{xs:List (List Key×Addr×Value)}(r:KT H kvs xs)(k:List Key):RelO (valV kvs k) ((atKey xs k).map (·.2)):=by
 induction r with
 |nil=>exact True.intro
 |@cons p q ps qs h t ih=>
  obtain⟨h1,_,h2⟩:=h;by_cases e:p.1=k
  ·have e':q.1=k:=h1.symm.trans e;have b:atKey (q::qs) k=some q.2:=by simp[atKey,List.find?_cons,e']
   rw[zeR e,b];exact h2
  ·have e':¬ q.1=k:=λz=>e (h1.trans z)
   have b:atKey (q::qs) k=atKey qs k:=by simp[atKey,List.find?_cons,e']
   rw[yeR e,b];exact ih
section
variable {P:Program} {w:World} {H:Hp} {h:Heap} {a:Addr}
theorem zhU{u:HO}(ok:HOk P w H h)(e:Rd H a u):yba P w H h a u:=e.ok ok
theorem zhD{kvs:List (Key×V)}(ok:HOk P w H h)(e:Rd H a (.dK kvs)):kvs.length<=sizeLine/\(a==sysModules)=false/\∃vs,KV kvs vs/\h.DictOf (yaH P w) a vs :=
 show yba P w H h a (.dK kvs) from zhU ok e
theorem zic{kvs:List (Key×V)}(ok:HOk P w H h)(e:H a=some (.dK kvs)):kvs.length<=sizeLine/\(a==sysModules)=false/\∃vs,KV kvs vs/\h.DictOf (yaH P w) a vs:=zhD ok (.inl e)
theorem zg1{ks:List Key}(ok:HOk P w H h)(e:H a=some (.tup (ks.map kV))):(tupleKind (yaH P w)).is h ks a:=by
 obtain⟨_,its,r,o,h1,h2,n,h3⟩:=(show yba P w H h a (.tup (ks.map kV)) from ok a _ e)
 exact⟨o,its.toArray,n,h1,h2,h3,by simpa using zdN r⟩
theorem yh3{kvs:List (List Key×V)}(ok:HOk P w H h)(e:Rd H a (.dT kvs)):kvs.length<=sizeLine/\(a==sysModules)=false/\
  ∃xs,KT H kvs xs/\h.DictOfH (tupleKind (yaH P w)) a xs:=by
 obtain⟨z,y,xs,r,o,es,ep,h1,h2,h3,h4,h5⟩:=(show yba P w H h a (.dT kvs) from zhU ok e)
 refine⟨z,y,xs,r,o,es,ep,h1,h2,h3,h4,λx hx=>?_,h5⟩;have all:∀ {l:List (List Key×V)} {m:List (List Key×Addr×Value)},KT H l m->∀x∈m,(tupleKind (yaH P w)).is h x.1 x.2.1:=by
  intro l m q
  induction q with
  |nil=>intro x hx;exact nomatch hx
  |@cons p q ps qs hq t ih=>
   intro x hx;rcases xA9.mp hx with e|hx
   ·subst e;exact zg1 ok (by rw[<-hq.1];exact hq.2.1)
   ·exact ih x hx
 exact all r x hx
end
noncomputable def DGet(H:Hp)(a:Addr)(y:V)(r:Option V):Prop :=
 (∃kvs k,Rd H a (.dK kvs)/\y=kV k/\r=valV kvs k)\/∃kvs k b,Rd H a (.dT kvs)/\y = .ref b/\H b=some (.tup (k.map kV))/\r=valV kvs k
theorem DGet.k{H:Hp}{a:Addr}{kvs:List (Key×V)}{k:Key}(e:H a=some (.dK kvs)):DGet H a (kV k) (valV kvs k):=.inl ⟨kvs,k,.inl e,rfl,rfl⟩
section
variable {X:Cx} {pins:List (Addr×Obj)} {σ:St} {H:Hp} {s:Shared} {a:Addr} {y v:V} {u r:Value} {o:Option V} {A:Around} {E:Value->Shared->Prop}
theorem Inv.big(I:Inv X pins σ H s):sysModules<s.heap.objs.size:=by
 have h:mainGlobals<s.heap.objs.size:=(I.mod.glob.keeps I.bk).lt;exact Nat.lt_trans (by decide) h
theorem zfR{Q:Value->Shared->Prop}(hu:A.units+1<cLine)(I:Inv X pins σ H s)(g:DGet H a y (some v))(ry:RelV y u)(h:∀w' s',Inv X pins σ H s'->RelV v w'->Q w' s') :
  wpAny (model X.prog X.w) A (getItem (.ref a) u) Q E s:=by
 rcases g with⟨kvs,k,e,ey,l⟩ |⟨kvs,k,b,e,ey,eb,l⟩
 ·subst ey;obtain⟨z,hd,vs,rel,dd⟩:=zhD I.hok e;obtain⟨w',hw,rw'⟩:=RelO.some_of (v:=v) (o:=valueAt vs k) (by rw[l];exact rel.val k);exact wpAny_getItem_of (ygN ry) dd.mapOf hw (h w' _ (I.tok _) rw')
 ·subst ey;cases (show u=Value.ref b from ry);obtain⟨z,hd,xs,rel,dd⟩:=yh3 I.hok e;obtain⟨w',hw,rw'⟩:=RelO.some_of (v:=v) (o:=(atKey xs k).map (·.2)) (by rw[l];exact rel.val k);obtain⟨p,hp,hp2⟩:=Option.map_eq_some_iff.mp hw;refine wpAny_getItem_heap (tupleKind_room_in1 hu) (zg1 I.hok eb) dd hp ?_;rw[hp2];exact h w' _ (I.tok _) rw'
theorem yg8{h':Heap}{t':Nat}{ob:HO}(I:Inv X pins σ H s)(mu:Mut (H a))(hs:Heap.SameBut a s.heap h')(he:∃q,h'.get? a=some q)(new:yba X.prog X.w (upd H a ob) h' a ob) :
  Inv X pins σ (upd H a ob) { s with heap:=h',toks:=t' } :=
 I.write (x:=a) (e:=a) mu (.inl rfl) (λb q hb z=>(hs.2 b hb).trans z) he new
theorem yhV{P:Program}{w:World}{H':Hp}{h':Heap}{kvs:List (Key×V)}{vs:List (Key×Value)}(z:kvs.length<=sizeLine)(hd:(a==sysModules)=false)(rel:KV kvs vs)(dd:h'.DictOf (yaH P w) a vs) :
  yba P w H' h' a (.dK kvs):=⟨z,hd,vs,rel,dd⟩
end
section
variable {X:Cx} {pins:List (Addr×Obj)} {σ:St} {H:Hp} {s:Shared} {a:Addr} {kvs:List (Key×V)} {k:Key} {u:Value} {A:Around} {E:Value->Shared->Prop}
end
noncomputable def NoSl(i:Expr):Prop:=∀ov iv,subscripted i false ov iv=operate [ov,iv] (getItem ov iv)
theorem zhz{prog:Program}{w:World}{A:Around}{E:Value->Shared->Prop}{s:Shared}{env:Env}{value slice:Expr}{pos:Pos}{T id:String}{Q:Value->Shared->Prop}
  (hl:typeLookup (.type T) "__getitem__"=pure (some (.builtin id))) (hs:NoSl slice)
  (h:wpAny (model prog w) A (eval value env) (λo s₁=>wpAny (model prog w) A (eval slice env) (λi s₂=>s₂.TypeIs o T/\wpAny (model prog w) A (getItem o i) Q E s₂) E s₁) E s) :
  wpAny (model prog w) A (eval (.Subscript value slice pos) env) Q E s:=by
 refine Subscript_ (xAQ h (λo s₁ h₁=>xAQ h₁ (λi s₂ h₂=>?_) λ_ _ x=>x) λ_ _ x=>x);obtain⟨hT,h₂⟩:=h₂;unfold subscriptTail;refine xA1 ?_;rw[getitemInPython_of_ne hT.not_modules];refine xA1 (wpAny_specialOf hT hl ?_);have fin:wpAny (model prog w) A (subscripted slice false o i) (λr s₃=>wpAny (model prog w) A (letTemporaryGo value o r >>= λ_=>pure r) Q E s₃) E s₂:=by
  rw[hs o i];exact wpAny_operating (xAQ h₂ (λr s₃ h₃=>xA1 (wpAny_letTemporaryGo (xA3 h₃))) λ_ _ x=>x)
 first
  |exact xA3 (xA1 fin)
  |exact xA1 (xA3 (xA1 fin))
  |exact xA1 fin
theorem zeH{X:Cx}{pins:List (Addr×Obj)}{σ:St}{H:Hp}{s:Shared}{a:Addr}{y:V}{o:Option V}(I:Inv X pins σ H s)(g:DGet H a y o):s.TypeIs (.ref a) "dict":=by
 rcases g with⟨kvs,k,e,_,_⟩ |⟨kvs,k,b,e,_,_,_⟩
 ·obtain⟨_,_,vs,_,dd⟩:=zhD I.hok e;exact dd.typeIs
 ·obtain⟨_,_,xs,_,dd⟩:=yh3 I.hok e;exact dd.typeIs
noncomputable def ziq(td ty:TE):TE:=λσ H Q=>td σ H λx H1=>ty σ H1 λy H2=>∃a v,x = .ref a/\DGet H2 a y (some v)/\Q v H2
section
variable {X:Cx} {o i e value:Expr} {pos pos' tpos:Pos} {td ty tv:TE}
theorem zaB(hu:X.A.units+1<cLine)(ho:PE X o td)(hi:PE X i ty)(hs:NoSl i):PE X (.Subscript o i pos) (ziq td ty):=by
 intro pins s σ H Q I h;refine zhz PySem.F.slot_dict_getitem.lookup hs (thn (ho pins s σ H _ I h) λu s1 ⟨x,H1,I1,rx,q1⟩=>thn (hi pins s1 σ H1 _ I1 q1) λiv s2 ⟨y,H2,I2,ry,a,v,ex,g,q2⟩=>?_);subst ex;obtain rfl:u=Value.ref a:=rx;exact⟨zeH I2 g,zfR hu I2 g ry λw' s3 I3 rw'=>⟨v,H2,I3,rw',q2⟩⟩
end
theorem ygp{P:Program}{w:World}{H:Hp}(h:Heap)(hb:sysModules<h.objs.size):yba P w H (h.push { cls:=.type "dict",data:=.dict #[] }) h.objs.size (.dK []) :=
 ⟨xB7 _,beq_eq_false_iff_ne.mpr (Ne.symm (xAF hb)),[],.nil,Heap.DictOf.new h⟩
section
variable {X:Cx} {pos:Pos}
end
noncomputable def zgj:List (TE×TE)->St->Hp->(List (V×V)->Hp->Prop)->Prop
 | [],_,H,Q=>Q [] H
 |(tk,tv)::r,σ,H,Q=>tk σ H λx H1=>tv σ H1 λy H2=>zgj r σ H2 λps H3=>Q ((x,y)::ps) H3
noncomputable abbrev VV:List (V×V)->List (Value×Value)->Prop:=Paired λp q=>RelV p.1 q.1/\RelV p.2 q.2
noncomputable def PPs(X:Cx)(pos:Pos)(keys:List (Option Expr))(values:List Expr)(trs:List (TE×TE)):Prop :=
 ∀(pins:List (Addr×Obj)) (s:Shared) (σ:St) (H:Hp) (Q:List (V×V)->Hp->Prop),Inv X pins σ H s->zgj trs σ H Q->
  wpAny (model X.prog X.w) X.A (evalPairs (pairTrees keys values X.env pos)) (λvs s'=>∃ps H',Inv X pins σ H' s'/\VV ps vs/\Q ps H') X.xe s
theorem zhq{X:Cx}{pos:Pos}:PPs X pos [] [] []:=λpins s σ H Q I h=>pairTrees_nil_walk ⟨[],H,I,.nil,h⟩
theorem zbO{X:Cx}{pos:Pos}{k v:Expr}{ks:List (Option Expr)}{vs:List Expr}{tk tv:TE}{trs:List (TE×TE)}(hk:PE X k tk)(hv:PE X v tv)(hr:PPs X pos ks vs trs) :
  PPs X pos (some k::ks) (v::vs) ((tk,tv)::trs):=λpins s σ H Q I h=>
 pairTrees_cons_walk (thn (hk pins s σ H _ I h) λu s1 ⟨x,H1,I1,rx,q1⟩=>thn (hv pins s1 σ H1 _ I1 q1) λw2 s2 ⟨y,H2,I2,ry,q2⟩=>
  thn (hr pins s2 σ H2 _ I2 q2) λws s3 ⟨ps,H3,I3,rel,q3⟩=>⟨(x,y)::ps,H3,I3,.cons ⟨rx,ry⟩ rel,q3⟩)
noncomputable def yc8(kvs more:List (Key×V)):List (Key×V):=more.foldl (λacc kv=>putK acc kv.1 kv.2) kvs
theorem KV.merge:∀ {more:List (Key×V)} {rs:List (Key×Value)} {kvs:List (Key×V)} {vs:List (Key×Value)},KV more rs->KV kvs vs->KV (yc8 kvs more) (merged vs rs):=by
 intro more rs kvs vs r;unfold KV at r
 induction r generalizing kvs vs with
 |nil=>intro q;exact q
 |@cons p q ps qs h t ih=>
  intro r0;have e:KV (putK kvs p.1 p.2) (stored vs q.1 q.2):=by
   have:=r0.put p.1 h.2;rw[<-h.1];exact this
  exact ih e
theorem yb8:∀(more kvs:List (Key×V)),(yc8 kvs more).length<=kvs.length+more.length
 | [],kvs=>by show kvs.length<=kvs.length+0;lia
 |p::r,kvs=>by
  have h1:=yb8 r (putK kvs p.1 p.2);have h2:=zev kvs p.1 p.2;show(yc8 (putK kvs p.1 p.2) r).length<=_;rw[xAO];lia
theorem zda{P:Program}{w:World}:∀ {kvs:List (Key×V)} {ws:List (Value×Value)},VV (kvs.map λkv=>(kV kv.1,kv.2)) ws->∃rs,Carries (yaH P w) ws rs/\KV kvs rs
 | [],_,r=>by rw[List.map_nil]at r;cases r;exact⟨[],True.intro,.nil⟩
 |p::kvs,_,r=>by
  rw[List.map_cons]at r;cases r with
  |@cons a b as bs h t=>
   obtain⟨rs,c,q⟩:=zda (P:=P) (w:=w) t;obtain⟨b1,b2⟩:=b;exact⟨(p.1,b2)::rs,⟨ygN h.1,rfl,c⟩,.cons ⟨rfl,h.2⟩ q⟩
noncomputable def zin(trs:List (TE×TE)):TE:=λσ H Q=>∀p,H p=none->zgj trs σ (upd H p (.dK [])) λps H2=>H2 p=some (.dK [])/\∃kvs:List (Key×V),ps=kvs.map (λkv=>(kV kv.1,kv.2))/\kvs.length<=15/\Q (.ref p) (upd H2 p (.dK (yc8 [] kvs)))
theorem yho{X:Cx}{pos:Pos}{keys:List (Option Expr)}{values:List Expr}{trs:List (TE×TE)}(h:PPs X pos keys values trs)(hall:keys.all (·.isSome)=true)(hl:keys.length=values.length)(h0:keys≠[])
  (h15:keys.length<=15):PE X (.Dict keys values pos) (zin trs):=by
 intro pins s σ H Q I q;have hn:=I.hok.fresh (xA4 s.heap.objs.size);have I1:=I.laid (a:=s.heap.objs.size) (o:=.dK []) (h':=s.heap.push { cls:=.type "dict",data:=.dict #[] }) (t':=s.toks) (λ_ _ q=>xA2 _ q) (xA4 _) (ygp s.heap I.big);refine wpAny_Dict_walk (knd:=yaH X.prog X.w) hall hl h0 h15 (thn (h pins _ σ _ _ I1 (q _ hn)) λws s2 ⟨ps,H2,I2,rel,e,kvs,ep,lk,q2⟩=>?_);subst ep;obtain⟨rs,c,rk⟩:=zda (P:=X.prog) (w:=X.w) rel;obtain⟨z,hd,vs0,r0,dd⟩:=zic I2.hok e;cases r0;refine⟨rs,c,dd,λh' dd' hs=>⟨.ref s.heap.objs.size,_,?_,rfl,q2⟩⟩;have hz:(yc8 [] kvs).length<=sizeLine:=by
  have h1:=yb8 kvs [];rw[List.length_nil]at h1;rw[sizeLine_eq];lia
 have he:∃q,h'.get? s.heap.objs.size=some q:=let ⟨q,_,_,hq,_⟩:=dd';⟨q,hq⟩;exact yg8 I2 (by rw[e];exact True.intro) hs he (yhV hz hd (rk.merge .nil) dd')
structure M1(X:Cx)(o:Expr)(m:Str)(apos:Pos)(e:Expr)(cpos:Pos):Prop where
 base:attributeBase o m X.env (eval o X.env)=eval o X.env
 few:((backTo cpos (starEach [e] X.env)).all (λx=>!x.1)&&(backToKw cpos (keywordEach [] X.env)).all (λx=>x.1.isSome)
  && decide (([e]:List Expr).length+([]:List Keyword).length+(if ([]:List Keyword).isEmpty then 0 else 1)<30))=true
 line:(apos.endLine==cpos.line)=true
 trees:backTo cpos (starEach [e] X.env)=[(false,eval e X.env)]
structure M2(X:Cx)(o:Expr)(m:Str)(apos:Pos)(e f:Expr)(cpos:Pos):Prop where
 base:attributeBase o m X.env (eval o X.env)=eval o X.env
 few:((backTo cpos (starEach [e,f] X.env)).all (λx=>!x.1)&&(backToKw cpos (keywordEach [] X.env)).all (λx=>x.1.isSome)
  && decide (([e,f]:List Expr).length+([]:List Keyword).length+(if ([]:List Keyword).isEmpty then 0 else 1)<30))=true
 line:(apos.endLine==cpos.line)=true
 trees:backTo cpos (starEach [e,f] X.env)=[(false,eval e X.env),(false,eval f X.env)]
section
variable {X:Cx} {pins:List (Addr×Obj)} {σ:St} {H:Hp} {s:Shared} {a:Addr} {y d:V} {u r:Value} {o:Option V} {A:Around} {E:Value->Shared->Prop}
end
section
variable {X:Cx} {o e f:Expr} {apos cpos:Pos} {td ty tx:TE}
end
section
variable {X:Cx} {pins:List (Addr×Obj)} {σ:St} {H:Hp} {s:Shared} {a:Addr} {kvs:List (Key×V)} {A:Around} {E:Value->Shared->Prop}
end
section
variable {X:Cx} {pins:List (Addr×Obj)} {σ:St} {H:Hp} {s:Shared} {a:Addr} {y:V} {u:Value} {A:Around} {E:Value->Shared->Prop}
end
end L2
namespace L2
open PySem PySem.Spec PyProof.Rows
section
variable {X:Cx}
end
end L2
namespace L2
open PySem PySem.Spec PyProof.Rows
section
variable {κ:Type} [DecidableEq κ]
end
end L2
end
section
-- text: ExtA
namespace L2
open PySem PySem.Spec PyProof.Rows
section
variable {prog:Program} {w:World} {A:Around} {R:Result->Shared->Prop} {s:Shared}
theorem zeo{elt target iter:Expr}{ifs:List Expr}{scope:Scope}{pos:Pos}{it acc:Value}{env:Env}(I:Nat->Shared->Prop)
  (turn:∀n s,I n s->wpAny (model prog w) A (pyNext it) (λr s₁=>match r with
   |none=>R (.ok .next) s₁
   |some v=>wpAny (model prog w) A (letOwnedTupleGo target it v) (λ_ s₁'=>wpAny (model prog w) A (assign target env v) (λ_ s₂=>
     wpAny (model prog w) A (forIn ifs true λc r=>if r=true then do let ok <-isTrue c env (eval c env);pure (ForInStep.yield ok) else pure (ForInStep.yield r)) (λok s₃=>
      if ok=true then wpAny (model prog w) A (eval elt env) (λx s₄=>
       wpAny (model prog w) A (call (.builtin "list.append") [acc,x]) (λ_ s₅=>∃m,m<n/\I m s₅) (λ_ _=>False) s₄) (λ_ _=>False) s₃
      else ∃m,m<n/\I m s₃) (λ_ _=>False) s₂) (λ_ _=>False) s₁') (λ_ _=>False) s₁) (λ_ _=>False) s)
  (n:Nat) (h:I n s):codeAny (model prog w) A (.compLoop (.ListComp elt [⟨target,iter,ifs,0⟩] scope pos) 0 it acc env) R s:=by
 refine codeAny_loop rfl I (λn s hI=>?_) n h;show wpAny _ A ((compTurn (.ListComp elt [⟨target,iter,ifs,0⟩] scope pos) 0 it acc env).onRaise (λx=>do noteFrame x env;theTreesLotGoes x)) _ _ s;refine wpAny_noted (wpAny_noRaise ?_);rw[compTurn_list];refine xA1 (wpAny_standAt (xA1 (xAQ (turn n s hI) (λr s₁ h₁=>?_) λ_ _ h'=>h')));cases r with
 |none=>exact xA3 h₁
 |some v=>
  refine xA1 (xAQ h₁ (λ_ s₁' h₁'=>?_) λ_ _ h'=>h');refine xA1 (xAQ h₁' (λ_ s₂ h₂=>xA1 (xAQ h₂ (λok s₃ h₃=>?_) λ_ _ h'=>h')) λ_ _ h'=>h');cases ok with
  |false=>exact xA3 ⟨rfl,h₃⟩
  |true=>
   exact xA1 (xA1 (xAQ h₃ (λx s₄ h₄=>xA1 (xAQ h₄ (λ_ s₅ h₅=>xA3 (xA3 ⟨rfl,h₅⟩)) λ_ _ h'=>h')) λ_ _ h'=>h'))
end
theorem yaQ{α:Type}{x:Str}{k:α}:∀ {l:List (Str×α)},l.lookup x=some k->(x,k)∈l:=λh=>PySem.mem_of_lookup h
theorem ya6{scope:Scope}{env:Env}(h:∀x∈scope.names,x.2 = .free->∃c,env.cells.lookup x.1=some c) :
  ∃cl,closureFor scope env=pure cl/\(∀n c,cl.lookup n=some c->env.cells.lookup n=some c)/\(∀n,(n,NameKind.free)∈scope.names->∃c,cl.lookup n=some c):=by
 have aux:∀(names:List (Str×NameKind)) (cs:List (Str×Addr)),(∀x∈names,x.2 = .free->∃c,env.cells.lookup x.1=some c)->(∀n c,cs.lookup n=some c->env.cells.lookup n=some c)->
   ∃cl,(forIn names cs λx r=>if (x.2==NameKind.free)=true then do let a <-cellOf env x.1;pure (ForInStep.yield ((x.1,a)::r)) else pure (ForInStep.yield r):Sem (List (Str×Addr)))=pure cl/\
    (∀n c,cl.lookup n=some c->env.cells.lookup n=some c)/\(∀n,((n,NameKind.free)∈names\/∃c,cs.lookup n=some c)->∃c,cl.lookup n=some c):=by
  intro names
  induction names with
  |nil=>intro cs _ hc;exact⟨cs,rfl,hc,λn h=>h.elim (λz=>nomatch z) id⟩
  |cons x r ih=>
   intro cs hx hc;obtain⟨n,k⟩:=x;have hr:∀x∈r,x.2 = .free->∃c,env.cells.lookup x.1=some c:=λy hy=>hx y (xA7 _ hy)
   by_cases hk:k = .free
   ·subst hk;obtain⟨c,e⟩:=hx (n,.free) xAb rfl;have hc':∀m d,List.lookup m ((n,c)::cs)=some d->env.cells.lookup m=some d:=λm d hm=>by
     rw[List.lookup_cons]at hm;cases hb:m==n with
     |true=>rw[hb]at hm;cases hm;rw[eq_of_beq hb];exact e
     |false=>rw[hb]at hm;exact hc m d hm
    obtain⟨cl,h1,h2,h3⟩:=ih ((n,c)::cs) hr hc';refine⟨cl,?_,h2,λm hm=>h3 m ?_⟩
    ·rw[List.forIn_cons];have e2:cellOf env n=pure c:=by unfold cellOf;rw[e]
     simp only[xBo,if_true,e2];exact h1
    ·rcases hm with hm |⟨d,hm⟩
     ·rcases xA9.mp hm with q|q
      ·cases q;exact .inr ⟨c,by rw[List.lookup_cons,xBo]⟩
      ·exact .inl q
     ·refine .inr ?_;rw[List.lookup_cons];cases hb:m==n with
      |true=>exact⟨c,rfl⟩
      |false=>exact⟨d,hm⟩
   ·obtain⟨cl,h1,h2,h3⟩:=ih cs hr hc;refine⟨cl,?_,h2,λm hm=>h3 m ?_⟩
    ·rw[List.forIn_cons];have:(k==NameKind.free)=false:=by simpa using hk
     simp only[this,Bool.false_eq_true,if_false];exact h1
    ·rcases hm with hm|hm
     ·rcases xA9.mp hm with q|q
      ·cases q;exact absurd rfl hk
      ·exact .inl q
     ·exact .inr hm
 obtain⟨cl,h1,h2,h3⟩:=aux scope.names [] h (λn c z=>by simp at z);refine⟨cl,?_,h2,λn hn=>h3 n (.inl hn)⟩;simp only[closureFor];rw[h1];rfl
theorem zaK{env:Env}:∀ {names:List (Str×NameKind)} {x:Str} {k:NameKind},
  (names.map λ(n,k)=>if (k==NameKind.free&&env.scope.kind==.function&&env.kindOf n==some .cell) then(n,NameKind.cell) else(n,k)).lookup x=some k->(k = .cell\/k = .free)->
  names.lookup x=some .free\/names.lookup x=some .cell
 | [],_,_,h,_=>by simp at h
 |(n,q)::r,x,k,h,hk=>by
  have ih:=@zaK env r x k;rw[List.map_cons,List.lookup_cons]at h;rw[List.lookup_cons];by_cases hc:(q==NameKind.free&&env.scope.kind==.function&&env.kindOf n==some .cell)=true
  ·simp only[if_pos hc]at h;cases hx:x==n with
   |true=>
    have:q = .free:=by
     have:=(Bool.and_eq_true_iff.mp (Bool.and_eq_true_iff.mp hc).1).1;exact eq_of_beq this
    simp[this]
   |false=>rw[hx]at h;exact ih h hk
  ·simp only[if_neg hc]at h;cases hx:x==n with
   |true=>
    rw[hx]at h;cases h;rcases hk with rfl|rfl
    ·exact .inr rfl
    ·exact .inl rfl
   |false=>rw[hx]at h;exact ih h hk
theorem ybG{env:Env}:∀ {names:List (Str×NameKind)} {x:Str},names.lookup x=some .free->
  (names.map λ(n,k)=>if (k==NameKind.free&&env.scope.kind==.function&&env.kindOf n==some .cell) then(n,NameKind.cell) else(n,k)).lookup x=some .cell\/
  (names.map λ(n,k)=>if (k==NameKind.free&&env.scope.kind==.function&&env.kindOf n==some .cell) then(n,NameKind.cell) else(n,k)).lookup x=some .free
 | [],_,h=>by simp at h
 |(n,q)::r,x,h=>by
  have ih:=@ybG env r x;rw[List.map_cons,List.lookup_cons];rw[List.lookup_cons]at h;by_cases hc:(q==NameKind.free&&env.scope.kind==.function&&env.kindOf n==some .cell)=true
  ·simp only[if_pos hc];cases hx:x==n with
   |true=>exact .inl rfl
   |false=>rw[hx]at h;exact ih h
  ·simp only[if_neg hc];cases hx:x==n with
   |true=>rw[hx]at h;cases h;exact .inr rfl
   |false=>rw[hx]at h;exact ih h
noncomputable def cxC(X:Cx)(N:List Str)(scope:Scope)(cl:List (Str×Addr))(C:Addr)(fp:List Addr)(s:Shared)(H:Hp):Cx :=
 { prog:=X.prog,w:=X.w,K:=X.K,mg:=X.mg,base:=X.base,A:=X.A,N:=N,s₀:=s,H₀:=H,env:=compEnvC scope cl C X.env,outer:=X.stack,stack:=X.stack,ex:=fp,fn:=λ_=>false,calm:=X.calm,pn:=[],xe:=λ_ _=>False }
structure CSc(M:List Str)(sc:Scope)(tg cp:List Str)(ci:List Nat)(scope:Scope):Prop where
 kind:scope.kind = .function
 nocell:∀x∈scope.names,x.2≠.cell
 loc:∀x∈scope.names,x.2 = .local->scope.names.lookup x.1=some .local
 free:∀x∈scope.names,x.2 = .free->sc.names.lookup x.1=some .cell\/sc.names.lookup x.1=some .free
 cap:∀x∈cp,scope.names.lookup x=some .free
 at_:ci.map (M[·]?)=cp.map some
 nd:(tg++cp).Nodup
noncomputable def capσ(k:Nat)(ci:List Nat)(σ:St):St:=List.replicate k none++ci.map λi=>(σ[i]?).join
noncomputable abbrev zgw:=Nat->Nat->List V->Hp->Prop
noncomputable def zg7(wi:TI)(k:Nat)(ci:List Nat)(g:TG)(ti:TT)(te:TE):TE:=λσ H Q=>wi σ H λJ H1=>∃W:zgw,(∃m,W 0 m [] H1)/\∀i m acc H,W i m acc H->
 (J.stop i H/\∀D,H D=none->Q (.ref D) (upd H D (.lst acc)))\/
 (J.go i H/\acc.length<sizeLine/\∃N:List V->Hp->Prop,(∀acc' H',N acc' H'->∃m',m'<m/\W (i+1) m' acc' H')/\∀x H',J.yld i H x H'->g x (capσ k ci σ) H' λσ2 H2=>ti σ2 H2 λb H3=>if b=true then te σ2 H3 λv H4=>N (acc++[v]) H4 else N acc H3)
noncomputable def PIfs(X:Cx)(ifs:List Expr)(t:TT):Prop :=
 ∀(pins:List (Addr×Obj)) (s:Shared) (σ:St) (H:Hp) (Q:Bool->Hp->Prop),Inv X pins σ H s->t σ H Q->
  wpAny (model X.prog X.w) X.A (forIn ifs true λc r=>if r=true then do let ok <-isTrue c X.env (eval c X.env);pure (ForInStep.yield ok) else pure (ForInStep.yield r)) (TP X pins σ Q) X.xe s
noncomputable def zif:TT:=λ_ H Q=>Q true H
theorem zaM{X:Cx}:PIfs X [] zif:=λpins s σ H Q I h=>wpAny_tests_nil ⟨H,I,h⟩
theorem zbz{X:Cx}{c:Expr}{t:TT}(h:PT X c t):PIfs X [c] t:=λpins s σ H Q I hq=>wpAny_tests_one (h pins s σ H Q I hq)
section
variable {X:Cx}
structure Gone(X:Cx)(pins:List (Addr×Obj))(H:Hp)(s:Shared)(C:Addr):Prop where
 ns:∃m,s.heap.Ns C m
 free:H C=none
 ne:C≠X.env.locals
 ab:X.s₀.heap.objs.size<=C
 cells:∀x c,X.env.cells.lookup x=some c->c≠C
 pins:∀p∈X.pn++pins,p.1≠C
 nofs:C∉X.fs
theorem yeZ{elt target iter:Expr}{ifs:List Expr}{scope:Scope}{pos:Pos}{tg cp:List Str}{ci:List Nat}{wi:TI}{g:TG}{ti:TT}{te:TE}
  {pins:List (Addr×Obj)} {s:Shared} {σ:St} {H:Hp} {Q:VK} {cl:List (Str×Addr)}
  (S:CSc X.N X.env.scope tg cp ci scope) (hcalm:X.calm=true) (hi:PI X target iter wi)
  (hcl1:∀n c,cl.lookup n=some c->X.env.cells.lookup n=some c) (hcl2:∀n,(n,NameKind.free)∈scope.names->∃c,cl.lookup n=some c)
  (hg:∀C fp s H,PG (cxC X (tg++cp) scope cl C fp s H) target g) (ht:∀C fp s H,PIfs (cxC X (tg++cp) scope cl C fp s H) ifs ti) (he:∀C fp s H,PE (cxC X (tg++cp) scope cl C fp s H) elt te)
  (I:Inv X pins σ H s) (h:zg7 wi tg.length ci g ti te σ H Q) :
  wpAny (model X.prog X.w) X.A (eval iter X.env) (λx s₁=>wpAny (model X.prog X.w) X.A (pyIter x) (λit s₂=>wpAny (model X.prog X.w) X.A (newList []) (λacc s₃=>
   wpAny (model X.prog X.w) X.A (newFunctionEnv scope X.env.globals cl [] X.env.qual none .none (some X.env)) (λcenv s₄=>
    codeAny (model X.prog X.w) X.A (.compStart (.ListComp elt [⟨target,iter,ifs,0⟩] scope pos) 0 it acc { cenv with scope:=relabel scope X.env })
     (λr s'=>∃D vs H',acc = .ref D/\r = .ok .next/\Inv X pins σ (upd H' D (.lst vs)) s'/\H' D=none/\Gone X pins (upd H' D (.lst vs)) s' cenv.locals/\∀D',H' D'=none->Q (.ref D') (upd H' D' (.lst vs))) s₄) X.xe s₃) X.xe s₂) X.xe s₁) X.xe s:=by
 refine thn (hi pins s σ H _ I h) λv s1 h1=>thn h1 λitv s2 h2=>?_
 obtain⟨it,fp,tn,J,H2,e,I2,T,st2,f2,W,⟨m0,w0⟩,turn⟩:=h2;subst e;refine xAN (wpAny_newFunctionEnv S.nocell (by intro y hy;simp at hy) (λh₁ hns₁ hsb₁=>?_) S.kind);dsimp only at hns₁ hsb₁ ⊢;generalize hHL:s2.heap.push { cls:=.type "list",dict:=none,data:=.seq ([]:List Value).toArray }=HL at hns₁ hsb₁ ⊢;have hC:HL.objs.size=s2.heap.objs.size+1:=by rw[<-hHL,xB6]
 generalize hD:s2.heap.objs.size=D at hC ⊢;generalize hCC:HL.objs.size=C at hns₁ hsb₁ hC ⊢;have hDC:D≠C:=by lia
 have old:∀b o,s2.heap.get? b=some o->h₁.get? b=some o:=λb o e=>by
  have lt:s2.heap.objs.size>=Nat.succ b:=xAd e;refine hsb₁.extBut b o (show @Ne Nat b C by lia) (xA2 _ (hHL ▸ xA2 _ e))
 have hD1:h₁.get? D=some { cls:=.type "list",data:=.seq ([]:List Value).toArray 0 }:=by
  refine hsb₁.extBut D _ hDC (xA2 _ ?_);rw[<-hHL,<-hD];exact xA6 _ rfl
 have fD:H2 D=none:=I2.hok.fresh (by lia);have fC:H2 C=none:=I2.hok.fresh (by lia)
 let X':Cx:=cxC X (tg++cp) scope cl C fp s2 H2
 have ok':X'.Ok:=by
  refine⟨I2.ok.mod,?_,I2.ok.glob,I2.ok.blt,?_,?_,?_,?_,I2.ok.hd,I2.ok.frames,.inl rfl,?_,I2.bs,xAB I2.ok.bsz I2.sz,?_,?_,I2.stack,I2.stkFree⟩
  ·exact S.kind
  ·show s2.heap.objs.size<=C;lia
  ·intro x y c hx hy;exact I2.ok.inj x y c (hcl1 x c hx) (hcl1 y c hy)
  ·intro x hx;have hx':(relabel scope X.env).names.lookup x=some .cell\/(relabel scope X.env).names.lookup x=some .free:=hx;have q:scope.names.lookup x=some .free\/scope.names.lookup x=some .cell:=by
    rcases hx' with z|z
    ·exact zaK z (.inl rfl)
    ·exact zaK z (.inr rfl)
   rcases q with q|q
   ·exact hcl2 x (yaQ q)
   ·exact absurd rfl (S.nocell _ (yaQ q))
  ·intro x c hx;cases hx
  ·intro b hb;obtain⟨o,eo,_⟩:=T.obj _ _ st2 b hb;have lt:s2.heap.objs.size>=Nat.succ b:=xAd eo;exact⟨by show @Ne Nat b C;lia,λx c hx=>(f2 b hb).2.2.2.2.1 x c (hcl1 x c hx)⟩
  ·intro b o e hb;rcases(f2 b hb).2.2.2.1 with z|z
   ·exact I2.ok.noex b o e z
   ·have l1:X.base.objs.size>=Nat.succ b:=xAd e;have l2:X.base.objs.size<=X.s₀.heap.objs.size:=I2.ok.bsz;have l3:X.s₀.heap.objs.size<=(b:Nat):=z;lia
  ·intro b hb hbs;rcases xA9.mp (I2.stkSub b hbs) with z|z
   ·exact(f2 b hb).2.1 z
   ·exact(f2 b hb).2.2.1 z
 have capLen:(capσ tg.length ci σ).length=X'.N.length:=by
  show(List.replicate tg.length none++ci.map λi=>(σ[i]?).join).length=(tg++cp).length;have:=congrArg List.length S.at_;simp only[xA0]at this;simp[this]
 have capLook:∀(h':Heap) (m':Str->Option Value),(∀x c o,X.env.cells.lookup x=some c->s2.heap.get? c=some o->∃sl,h'.get? c=some { o with slots:=sl })->
   ∀(i:Nat) (x:Str) (v:V),X'.N[i]?=some x->(capσ tg.length ci σ)[i]?=some (some v)->Vis X'.env.scope x->∃u,RelV v u/\Look X'.env h' m' x u:=by
  intro h' m' hcell i x v e1 e2 e3;have e1':(tg++cp)[i]?=some x:=e1;have e2':(List.replicate tg.length none++ci.map λi=>(σ[i]?).join)[i]?=some (some v):=e2;by_cases hi':i<tg.length
  ·rw[xBn (by simpa using hi'),List.getElem?_replicate]at e2';split at e2' <;> cases e2'
  ·rw[xAU (by simpa using hi'),xAq,xA8]at e2';rw[xAU (by lia)]at e1';cases hj:ci[i-tg.length]? with
   |none=>rw[hj]at e2';cases e2'
   |some j=>
    rw[hj]at e2';have e2'':(σ[j]?).join=some v:=xAv e2';have e4:σ[j]?=some (some v):=by
     cases q:σ[j]? with
     |none=>rw[q]at e2'';cases e2''
     |some z=>rw[q]at e2'';exact congrArg some e2''
    have e5:X.N[j]?=some x:=by
     have:=congrArg (·[i-tg.length]?) S.at_;simp only[xA8,hj,e1',Option.map_some]at this;exact xAv this
    have hx:scope.names.lookup x=some .free:=S.cap x (xBc e1');have hk:=S.free (x,.free) (yaQ hx) rfl;obtain⟨m,hn,hl⟩:=I2.loc;obtain⟨u,r,l⟩:=hl j x v e5 e4 (.inr hk);refine⟨u,r,.inr ⟨?_,?_⟩⟩
    ·exact ybG hx
    ·rcases l with⟨k1,_⟩ |⟨_,c,k2,k3⟩
     ·have k1':X.env.scope.names.lookup x=some .local:=k1;rcases hk with z|z <;> (rw[z]at k1';cases k1')
     ·obtain⟨c',hc'⟩:=hcl2 x (yaQ hx);have:=hcl1 x c' hc';rw[k2]at this;cases this;obtain⟨o,ho,hd⟩:=k3;obtain⟨sl,q⟩:=hcell x c o k2 ho;exact⟨c,hc',_,q,hd⟩
 have I':∀tk,Inv X' [] (capσ tg.length ci σ) H2 { s2 with heap:=h₁,toks:=tk }:=λtk=>by
  refine⟨ok',rfl,I2.bare,Un.kept old,⟨_,hns₁,capLook _ _ λx c o _ e=>⟨o.slots,old c o e⟩⟩,λx c hx=>?_,fC,λx c hx=>I2.freeC x c (hcl1 x c hx),λp hp=>absurd (show p∈([]:List (Addr×Obj)) from hp) (by simp),I2.hok.kept old,?_⟩
  ·obtain⟨v,o,ho,hd⟩:=I2.cell x c (hcl1 x c hx);exact⟨v,o,old c o ho,hd⟩
  ·exact capLen
 have recap:∀ {pl pl':List (Addr×Obj)} {σ':St} {H':Hp} {s':Shared},Inv X' (pl++pl') σ' H' s'->Inv X' pl (capσ tg.length ci σ) H' s':=λ{pl pl' σ' H' s'} J=>by
  obtain⟨m,hn,_⟩:=J.loc;have u:Un (frs X.stack) fp H2 H' s2.heap s'.heap:=J.base;exact⟨J.ok,J.os,J.bare,J.base,⟨m,hn,capLook _ _ λx c o hx e=>u.any e (I2.freeC x c hx) λhb=>(f2 c hb).2.2.2.2.1 x c hx rfl⟩,J.cell,J.free,J.freeC,
   λp hp=>(xAE.mp hp).elim (λz=>J.pin p (xAK _ z)) (λz=>J.pin p (xAc _ (xAK _ z))),J.hok,capLen⟩
 have stat:∀ {H':Hp},(∀b∈fp,H' b=none)->∀b∈fp,FpOk X' [] H' b:=λhn b hb=>by
  obtain⟨o,eo,_⟩:=T.obj _ _ st2 b hb;have lt:s2.heap.objs.size>=Nat.succ b:=xAd eo;exact⟨hn b hb,by show @Ne Nat b C;lia,ok'.exfs b hb,.inl hb,(ok'.exf b hb).2,λp hp=>absurd (show p∈([]:List (Addr×Obj)) from hp) (by simp)⟩
 have hDfp:D∉fp:=λhb=>by obtain⟨o,eo,_⟩:=T.obj _ _ st2 D hb;have lt:s2.heap.objs.size>=Nat.succ D:=xAd eo;lia
 have hDcell:∀x c,X'.env.cells.lookup x=some c->c≠D:=λx c hx=>by
  obtain⟨v,o,ho,hd⟩:=I2.cell x c (hcl1 x c hx);have lt:s2.heap.objs.size>=Nat.succ c:=xAd ho;intro z;have z':@Eq Nat c D:=z;lia
 have hDfs:D∉X'.fs:=λhb=>by
  have:D∈X.env.locals::X.fs:=I2.stkSub D hb;rcases xA9.mp this with z|z
  ·have l1:s2.heap.objs.size>=Nat.succ X.env.locals:=I2.lt;have z':@Eq Nat D X.env.locals:=z;lia
  ·exact I2.nofs (show s2.heap.objs.size<=D by lia) z
 have fin:∀ {pl:List (Addr×Obj)} {σ':St} {H':Hp} {s':Shared} {vs:List V} {us:List Value} {k:Nat},Inv X' pl σ' H' s'->H' D=none->s'.heap.get? D=some { cls:=.type "list",data:=.seq us.toArray k }->Vals vs us->vs.length<=sizeLine->
   (∀D',H' D'=none->Q (.ref D') (upd H' D' (.lst vs)))->
   ∃D' vs H',Value.ref D = .ref D'/\(Except.ok Flow.next:Result) = .ok .next/\Inv X pins σ (upd H' D' (.lst vs)) s'/\H' D'=none/\Gone X pins (upd H' D' (.lst vs)) s' C/\∀D',H' D'=none->Q (.ref D') (upd H' D' (.lst vs)):=by
  intro pl σ' H' s' vs us k J f e r z q;have u:Un (frs X.stack) fp H2 H' s2.heap s'.heap:=J.base;have lt:∀ {b:Addr} {o:Obj},s2.heap.get? b=some o->b≠D:=λ{b o} eb zb=>by
   have l1:s2.heap.objs.size>=Nat.succ b:=xAd eb;have l2:@Eq Nat b D:=zb;lia
  have u2:Un (frs X.stack) fp H2 (upd H' D (.lst vs)) s2.heap s'.heap :=
   ⟨u.keep,u.slot,λb o eb n hx=>by rw[yag (lt eb)];exact u.free b o eb n hx,u.there,
    λb xs eb=>by rw[yag (yaf eb fD)];exact u.tups b xs eb,λb o uu eb=>by rw[yag (yaf eb fD)];exact u.frzs b o uu eb,λb ps eb=>by rw[yag (yaf eb fD)];exact u.tbls b ps eb⟩
  have hok2:HOk X.prog X.w (upd H' D (.lst vs)) s'.heap:=λb o eb=>by
   by_cases hb:b=D
   ·subst hb;rw[yaa]at eb;cases eb;exact⟨z,us,k,r,e⟩
   ·rw[yag hb]at eb;refine(J.hok b o eb).stay (λ_ _ _ q=>q) (λc hc=>?_) λc xs hc=>?_
    ·rw[yag (λzz=>by rw[zz,f]at hc;cases hc)];exact hc
    ·rw[yag (λzz=>by rw[zz,f]at hc;cases hc)];exact hc
  refine⟨D,vs,H',rfl,rfl,I2.call' (ch:=fp) J.os u2 hok2 J.bare ?_,f,⟨?_,?_,?_,?_,?_,?_,?_⟩,q⟩
  ·intro b hb;obtain⟨_,a2,_,a4,a5,a6⟩:=f2 b hb;exact⟨a4,a2,a5,a6⟩
  ·obtain⟨m,hn,_⟩:=J.loc;exact⟨m,hn⟩
  ·rw[yag (Ne.symm hDC)];exact J.free
  ·have l1:s2.heap.objs.size>=Nat.succ X.env.locals:=I2.lt;intro zz;have zz':@Eq Nat C X.env.locals:=zz;lia
  ·have l1:X.s₀.heap.objs.size<=s2.heap.objs.size:=I2.sz;show X.s₀.heap.objs.size<=C;lia
  ·intro x c hx zz;obtain⟨v,o,ho,hd⟩:=I2.cell x c hx;have l1:s2.heap.objs.size>=Nat.succ c:=xAd ho;have zz':@Eq Nat c C:=zz;lia
  ·intro p hp zz;have l1:s2.heap.objs.size>=Nat.succ p.1:=xAd (I2.pin p hp).1;have zz':@Eq Nat p.1 C:=zz;lia
  ·exact I2.nofs (show s2.heap.objs.size<=C by lia)
 have loop:∀tk,codeAny (model X.prog X.w) X.A (.compLoop (.ListComp elt [⟨target,iter,ifs,0⟩] scope pos) 0 (.ref it) (.ref D) (compEnvC scope cl C X.env))
   (λr s'=>∃D' vs H',Value.ref D = .ref D'/\r = .ok .next/\Inv X pins σ (upd H' D' (.lst vs)) s'/\H' D'=none/\Gone X pins (upd H' D' (.lst vs)) s' C/\∀D',H' D'=none->Q (.ref D') (upd H' D' (.lst vs))) { s2 with heap:=h₁,toks:=tk }:=by
  intro tk;refine zeo (λn s'=>∃i vs us k H',Inv X' [] (capσ tg.length ci σ) H' s'/\tn i s'.heap/\(∀b∈fp,H' b=none)/\H' D=none/\s'.heap.get? D=some { cls:=.type "list",data:=.seq us.toArray k }/\Vals vs us/\vs.length<=sizeLine/\W i n vs H') ?_ m0
   ⟨0,[],[],0,H2,I' tk,T.keep _ _ _ st2 (λb hb o e=>old b o e),λb hb=>(f2 b hb).1,fD,hD1,.nil,xB7 _,w0⟩
  rintro n s3 ⟨i,vs,us,k,H3,I3,st3,fr3,fD3,hD3,rv3,z3,w3⟩
  let pD:List (Addr×Obj):=[(D,{ cls:=.type "list",data:=.seq us.toArray k })]
  have pinD:∀ {σ':St} {H':Hp} {s':Shared},Inv X' [] σ' H' s'->H' D=none->s'.heap.get? D=some { cls:=.type "list",data:=.seq us.toArray k }->Inv X' pD σ' H' s':=λ{σ' H' s'} J f e=>
   J.pins_of λp hp=>by
    have:p=(D,{ cls:=.type "list",data:=.seq us.toArray k }):=by simpa[pD]using hp
    subst this;exact⟨e,f,hDC,hDfs,λv z=>by cases z⟩
  have statD:∀ {H':Hp},(∀b∈fp,H' b=none)->∀b∈fp,FpOk X' pD H' b:=λhn b hb=>by
   obtain⟨a1,a2,a3,a4,a5,_⟩:=stat hn b hb;refine⟨a1,a2,a3,a4,a5,λp hp=>?_⟩;have:p=(D,{ cls:=.type "list",data:=.seq us.toArray k }):=by
    have hp':p∈([]:List (Addr×Obj))++pD:=hp
    simpa[pD]using hp'
   subst this
   exactλz=>hDfp (by rw[show D=b from z];exact hb)
  rcases turn i n vs H3 w3 with⟨stop,qn⟩ |⟨go,zl,N,hN,step⟩
  ·refine thn (T.done X' rfl rfl rfl hcalm i pD s3 _ H3 _ (pinD I3 fD3 hD3) (statD fr3) st3 stop) λr s4 ⟨hr,I4⟩=>?_
   subst hr;have eD:s4.heap.get? D=some { cls:=.type "list",data:=.seq us.toArray k }:=(I4.pin (D,_) (by simp[pD])).1;exact fin I4 fD3 eD rv3 z3 qn
  ·refine thn (T.item X' rfl rfl rfl hcalm i pD s3 _ H3 _ (pinD I3 fD3 hD3) (statD fr3) st3 go) λr s4 ⟨u,hr,h4⟩=>?_
   subst hr;refine thn h4 λ_ s5 ⟨x,H5,I5,r5,y5,st5,fr5⟩=>?_
   have I5':=I5.pinned (statD fr5) (T.obj _ _ st5);refine thn (hg C fp s2 H2 _ s5 _ H5 x u _ I5' r5 (step x H5 y5)) λ_ s6 ⟨σ6,H6,I6,q6⟩=>?_
   refine thn (ht C fp s2 H2 _ s6 σ6 H6 _ I6 q6) λb s7 ⟨H7,I7,q7⟩=>?_
   have again:∀ {s8:Shared} {H8:Hp},Inv X' (pD++zcm fp s5.heap) σ6 H8 s8->Inv X' pD (capσ tg.length ci σ) H8 s8/\tn (i+1) s8.heap/\(∀b∈fp,H8 b=none)/\H8 D=none/\s8.heap.get? D=some { cls:=.type "list",data:=.seq us.toArray k }:=λ{s8 H8} I8=>by
    have e8:=I8.pin (D,_) (xAc _ (xAK _ (by simp[pD] <;> rfl)));refine⟨?_,T.keep _ _ _ st5 λb hb o e=>(I8.pin (b,o) (xAc _ (xAc _ (ya5 hb e)))).1,λb hb=>?_,e8.2.1,e8.1⟩
    ·exact recap I8
    ·obtain⟨o,e,d⟩:=T.obj _ _ st5 b hb;exact(I8.pin (b,o) (xAc _ (xAc _ (ya5 hb e)))).2.1
   cases b with
   |false=>
    obtain⟨m',hm,w7⟩:=hN _ _ q7;obtain⟨J,t7,f7,d7,e7⟩:=again I7;exact⟨m',hm,i+1,vs,us,k,H7,J.pins_of (λp hp=>nomatch hp),t7,f7,d7,e7,rv3,z3,w7⟩
   |true=>
    simp only[if_true]at q7 ⊢;refine thn (he C fp s2 H2 _ s7 σ6 H7 _ I7 q7) λy s8 ⟨yv,H8,I8,r8,q8⟩=>?_
    obtain⟨m',hm,w8⟩:=hN _ _ q8;obtain⟨J,t8,f8,d8,e8⟩:=again I8;refine call_meets F.slot_list_append ⟨_,e8,rfl⟩ F.entry_list_append (F.args_list_append_2 _ _) (PySem.list_append D us.toArray k y (by rw[xAa,<-rv3.length];exact z3)) ⟨e8,?_⟩;have q:=PySem.IsL.update e8 (·.push y);have J0:Inv X' [] (capσ tg.length ci σ) H8 s8:=J.pins_of (λp hp=>nomatch hp);refine⟨m',hm,i+1,vs++[yv],us++[y],_,H8,J0.turned (it:=D) (t':=s8.toks) (λb o hb hu=>(xAW s8.heap _ (Ne.symm hb)).trans hu) d8 hDC (.inr (by show s2.heap.objs.size<=D;lia)) hDcell (λp hp=>absurd (show p∈([]:List (Addr×Obj)) from hp) (by simp)),?_,f8,d8,by simpa using q,rv3.append (.cons r8 .nil),by simp;lia,w8⟩;exact T.keep _ _ _ t8 λb hb o hu=>(xAW s8.heap _ (λz=>hDfp (by rw[z];exact hb))).trans hu
 exact codeAny_compStart_list (loop _) (T.self X.A 0 _ _ _ (T.keep _ _ _ st2 (λb hb o e=>old b o e)) (loop _))
theorem Gone.turned{pins:List (Addr×Obj)}{σ:St}{H:Hp}{s:Shared}{C:Addr}{h':Heap}(G:Gone X pins H s C)(I:Inv X pins σ H s)(hs:Heap.SameBut C s.heap h'):Inv X pins σ H { s with heap:=h' } :=
 I.turned (t':=s.toks) (λb o hb e=>hs.extBut b o hb e) G.free G.ne (.inr G.ab) G.cells G.pins
theorem yaF{elt target iter:Expr}{ifs:List Expr}{scope:Scope}{pos:Pos}{tg cp:List Str}{ci:List Nat}{wi:TI}{g:TG}{ti:TT}{te:TE}
  (S:CSc X.N X.env.scope tg cp ci scope) (hcalm:X.calm=true) (hi:PI X target iter wi)
  (hg:∀cl C fp s H,PG (cxC X (tg++cp) scope cl C fp s H) target g) (ht:∀cl C fp s H,PIfs (cxC X (tg++cp) scope cl C fp s H) ifs ti) (he:∀cl C fp s H,PE (cxC X (tg++cp) scope cl C fp s H) elt te)
  (hs:∀x,foldedSetIterable iter X.env x=pure x:=by intro _;rfl):PE X (.ListComp elt [⟨target,iter,ifs,0⟩] scope pos) (zg7 wi tg.length ci g ti te):=by
 intro pins s σ H Q I h;obtain⟨cl,hclos,h1,h2⟩:=ya6 (scope:=scope) (env:=X.env) λx hx hf=>I.ok.has x.1 (S.free x hx hf)
 rw[eval_ListComp];refine wpAny_comprehension_free (use:=none) rfl hs hclos S.kind S.loc (thn (yeZ S hcalm hi h1 h2 (hg cl) (ht cl) (he cl) I h) λx s1 q1=>thn q1 λit s2 q2=>thn q2 λacc s3 q3=>thn q3 λcenv s4 q4=>codeAny_mono q4 λr s' q=>?_);obtain⟨D,vs,H',e1,e2,I',f,G,q⟩:=q;subst e1 e2;obtain⟨m,hn⟩:=G.ns;exact⟨m,hn,λh' hsb=>⟨.ref D,_,G.turned I' hsb,rfl,q D f⟩⟩
theorem zcE{i:Nat}{y:Str}{py:Pos}{elt target iter:Expr}{ifs:List Expr}{scope:Scope}{pos spos:Pos}{tg cp:List Str}{ci:List Nat}{wi:TI}{g:TG}{ti:TT}{te:TE}
  (hN:X.N.Nodup) (hi':X.N[i]?=some y) (hy:Loc X.env.scope y)
  (S:CSc X.N X.env.scope tg cp ci scope) (hcalm:X.calm=true) (hi:PI X target iter wi)
  (hg:∀cl C fp s H,PG (cxC X (tg++cp) scope cl C fp s H) target g) (ht:∀cl C fp s H,PIfs (cxC X (tg++cp) scope cl C fp s H) ifs ti) (he:∀cl C fp s H,PE (cxC X (tg++cp) scope cl C fp s H) elt te)
  (hsw:swapsWith (.ListComp elt [⟨target,iter,ifs,0⟩] scope pos) (some (.Name y py)) spos.line X.env=pure true:=by rfl)
  (hs:∀x,foldedSetIterable iter X.env x=pure x:=by intro _;rfl) (hf:X.fn y=true\/X.env.scope.names.lookup y=some .local:=by first|exact .inl rfl|exact .inr rfl|assumption) :
  PS X (.Assign [.Name y py] (.ListComp elt [⟨target,iter,ifs,0⟩] scope pos) spos) (tAsg (zg7 wi tg.length ci g ti te) (yau i)):=by
 intro pins s σ H D I h;obtain⟨cl,hclos,h1,h2⟩:=ya6 (scope:=scope) (env:=X.env) λx hx hf=>I.ok.has x.1 (S.free x hx hf)
 rw[exec_Assign_Name_used _ _ _ _ hsw];refine xA1 (wpAny_standAt (xA1 ?_));show wpAny _ X.A (do let _ <-comprehension (.ListComp elt [⟨target,iter,ifs,0⟩] scope pos) scope X.env _ (newList []) false (eval iter X.env) (some (assign (.Name y py) X.env))) _ _ s;refine xA1 (xAQ (wpAny_comprehension_free (use:=some (assign (.Name y py) X.env)) (Q:=λ_ s'=>SP X pins D .next s') rfl hs hclos S.kind S.loc
  (thn (yeZ S hcalm hi h1 h2 (hg cl) (ht cl) (he cl) I h) λx s1 q1=>thn q1 λit s2 q2=>thn q2 λacc s3 q3=>thn q3 λcenv s4 q4=>codeAny_mono q4 λr s' q=>?_)) (λ_ s' hq=>xA3 (xA3 hq)) λ_ _ e=>e)
 obtain⟨D',vs,H',e1,e2,I',f,G,q⟩:=q;subst e1 e2;show wpAny _ X.A (assign (.Name y py) X.env (.ref D')) _ _ _;obtain⟨m,o,es,ep,ho,hd,hk⟩:=G.ns;have pin:Inv X ((cenv.locals,o)::pins) σ (upd H' D' (.lst vs)) s':=I'.pins_of λp hp=>by
  rcases xA9.mp hp with z|z
  ·subst z;exact⟨ho,G.free,G.ne,G.nofs,λv z=>by rw[hd]at z;cases z⟩
  ·exact I'.pin p (xAc _ z)
 refine wpAny_assign_Name (yaX (v:=V.ref D') pin hN hi' hy (show RelV (.ref D') (.ref D') from rfl) (λs2 I2=>?_) hf);have I3:Inv X pins (σ.set i (some (.ref D'))) (upd H' D' (.lst vs)) s2:=I2.pins_of λp hp=>I2.pin p (xAc _ (xA7 _ hp))
 have e2:=I2.pin (cenv.locals,o) (xAc _ xAb);have G2:Gone X pins (upd H' D' (.lst vs)) s2 cenv.locals:=⟨⟨m,o,es,ep,e2.1,hd,hk⟩,G.free,G.ne,G.ab,G.cells,G.pins,G.nofs⟩
 exact⟨m,⟨o,es,ep,e2.1,hd,hk⟩,λh' hsb=>⟨_,_,G2.turned I3 hsb,q D' f⟩⟩
end
end L2
end
section
-- text: ExtB
namespace L2
open PySem PySem.Spec PyProof.Rows
structure ydr(P:Program)(w:World)(A:Around)(a:Addr)(dep:List Addr)(ok:Nat->Heap->Prop)(val:Nat->Option Value):Prop where
 mem:a∈dep
 obj:∀k h,ok k h->∃o,h.get? a=some o/\(∀v,o.data≠.cell v)/\o.cls≠.type "zip"/\o.cls≠.type "enumerate"/\o.cls≠.type "tuple"
 keep:∀k h h',ok k h->(∀b∈dep,∀o,h.get? b=some o->h'.get? b=some o)->ok k h'
 item:∀k x (s:Shared) (Q:Value->Shared->Prop) (E:Value->Shared->Prop),ok k s.heap->val k=some x->(∀h',ok (k+1) h'->Heap.SameBut a s.heap h'->Q x { s with heap:=h' })->
  wpAny (model P w) A (Builtin.SmallTypes.nextOf (.ref a)) Q E s
 stop:∀k (s:Shared) (Q:Value->Shared->Prop) (E:Value->Shared->Prop),ok k s.heap->val k=none->
  (∀h' e,Heap.ExtBut a s.heap h'->(∃o,h'.get? e=some o/\o.cls = .type "StopIteration")->E (.ref e) { s with heap:=h' })->wpAny (model P w) A (Builtin.SmallTypes.nextOf (.ref a)) Q E s
section
variable {P:Program} {w:World} {A:Around}
theorem zhE{a l:Addr}{xs:Array Value}(hh:A.handled=none)(ne:l≠a):ydr P w A a [a,l] (λk h=>h.IsListIter a l k/\h.IsList l xs) (λk=>xs[k]?) where
 mem:=xAb
 obj:=λk h z=>by
  obtain⟨⟨o,e,c,d⟩,_⟩:=z;exact⟨o,e,λv q=>(by rw[d]at q;cases q),(by rw[c];decide),(by rw[c];decide),(by rw[c];decide)⟩
 keep:=λk h h' z q=>⟨z.1.at λo e=>q a (by simp) o e,z.2.at λo e=>q l (by simp) o e⟩
 item:=λk x s Q E z e q=>wpAny_nextOf_list_item z.1 z.2 e λh' h1 h2=>q h' ⟨h1,z.2.extBut h2.extBut ne⟩ h2
 stop:=λk s Q E z e q=>wpAny_nextOf_list_end hh z.1 z.2 e q
theorem zdd{h h':Heap}{a l:Addr}{k:Nat}(x:h.IsTupleIter a l k)(e:∀o,h.get? a=some o->h'.get? a=some o):h'.IsTupleIter a l k:=let ⟨o,ho,r⟩:=x;⟨o,e _ ho,r⟩
theorem zgV{h h':Heap}{a:Addr}{xs:Array Value}(x:h.IsTuple a xs)(e:∀o,h.get? a=some o->h'.get? a=some o):h'.IsTuple a xs:=let ⟨o,ho,r⟩:=x;⟨o,e _ ho,r⟩
theorem zhZ{a l:Addr}{xs:Array Value}(hh:A.handled=none)(ne:l≠a):ydr P w A a [a,l] (λk h=>h.IsTupleIter a l k/\h.IsTuple l xs) (λk=>xs[k]?) where
 mem:=xAb
 obj:=λk h z=>by
  obtain⟨⟨o,e,c,d⟩,_⟩:=z;exact⟨o,e,λv q=>(by rw[d]at q;cases q),(by rw[c];decide),(by rw[c];decide),(by rw[c];decide)⟩
 keep:=λk h h' z q=>⟨zdd z.1 λo e=>q a (by simp) o e,zgV z.2 λo e=>q l (by simp) o e⟩
 item:=λk x s Q E z e q=>by
  obtain⟨o,ho,hc,hd⟩:=id z.1;obtain⟨ol,hol,_,nl,hdl⟩:=id z.2;unfold Builtin.SmallTypes.nextOf;refine xA1 (xAV (name:=Str.ofString "__next__") z.1.typeIs F.slot_tuple_iterator_next (xAX F.slot_tuple_iterator_next z.1.typeIs F.entry_tuple_iterator_next ?_ (F.args_tuple_iterator_next_1 _)));show wpAny _ _ (field (.ref a) 0 >>= _) _ _ s;refine xA1 (xBl ho hd (x:=.ref l) rfl ?_);show wpAny _ _ (if (Value.ref l==Value.none)=true then _ else _) _ _ s;rw[if_neg (show ¬ ((Value.ref l==Value.none)=true) from xAo)];show wpAny _ _ (field (.ref a) 1 >>= _) _ _ s;refine xA1 (xBl ho hd (x:=.int k 0) rfl ?_);show wpAny _ _ (seqItems? (.ref l) >>= _) _ _ s;refine xA1 (wpAny_seqItems hol hdl ?_);simp only[xAs,e];refine xA1 (wpAny_setField ho hd (by simp) (xA3 ⟨x,rfl,xA3 (q _ ⟨?_,z.2.extBut (xBu ..).extBut ne⟩ (xBu ..))⟩));exact⟨_,xBg _ ho (Obj.isFreed_of_fields (xB8 hd _)),(Obj.cls_mapFields ..).trans hc,by rw[xB8 hd];simp[rawInt]⟩
 stop:=λk s Q E z e q=>by
  obtain⟨o,ho,hc,hd⟩:=id z.1;obtain⟨ol,hol,_,nl,hdl⟩:=id z.2;unfold Builtin.SmallTypes.nextOf;refine xA1 (xAV (name:=Str.ofString "__next__") z.1.typeIs F.slot_tuple_iterator_next (xAX F.slot_tuple_iterator_next z.1.typeIs F.entry_tuple_iterator_next ?_ (F.args_tuple_iterator_next_1 _)));show wpAny _ _ (field (.ref a) 0 >>= _) _ _ s;refine xA1 (xBl ho hd (x:=.ref l) rfl ?_);show wpAny _ _ (if (Value.ref l==Value.none)=true then _ else _) _ _ s;rw[if_neg (show ¬ ((Value.ref l==Value.none)=true) from xAo)];show wpAny _ _ (field (.ref a) 1 >>= _) _ _ s;refine xA1 (xBl ho hd (x:=.int k 0) rfl ?_);show wpAny _ _ (seqItems? (.ref l) >>= _) _ _ s;refine xA1 (wpAny_seqItems hol hdl ?_);simp only[xAs,e];refine xA1 (xB9 (xA1 (wpAny_setField ho hd (by simp) ?_)));show wpAny _ _ (newExc (.type "StopIteration") [] >>= _) _ _ _;refine xA1 ?_;simp only[newExc,newTuple];refine xA1 (xAN ?_ (by size_fits));refine xA1 (m:=firstArgMember _ _) (xBs (a:=Value.none) (by first|rfl|(simp only[firstArgMember];rfl)) (xAN ?_ (by size_fits)));simp only[raiseNew];refine xA1 (wpAny_handled ?_)
  first|rw[show A.in1.handled=none from hh]|rw[hh]
  exact xA1 (xA3 (wpAny_throw (q _ _ (((xBu ..).extBut.push _).push _) ⟨_,xA6 _ rfl,rfl⟩)))
end
structure ZAp(z TI TO:Addr)(d1 d2:List Addr)(i1 i2:Addr):Prop where
 a1:TI≠z
 a2:TO≠z
 a3:TI≠TO
 b1:z∉d1
 b2:z∉d2
 b3:TO∉d1
 b4:TO∉d2
 b5:TI≠i1
 b6:TI≠i2
 c1:i1∉d2
 c2:i2∉d1
section
variable {P:Program} {w:World} {A:Around} {s:Shared} {z TI TO i1 i2:Addr} {d1 d2:List Addr} {ok1 ok2:Nat->Heap->Prop} {v1 v2:Nat->Option Value}
theorem ydr.ext(S:ydr P w A i1 d1 ok1 v1){k:Nat}{h h':Heap}{b:Addr}(o:ok1 k h)(e:Heap.ExtBut b h h')(n:b∉d1):ok1 k h':=S.keep k h h' o λc hc ob eb=>e c ob (λq=>n (q ▸ hc)) eb
theorem zf5{k:Nat}{x y p q:Value}{Q:Value->Shared->Prop}{E:Value->Shared->Prop}(D:ZAp z TI TO d1 d2 i1 i2)(S1:ydr P w A i1 d1 ok1 v1)(S2:ydr P w A i2 d2 ok2 v2)
  (hz:IsZip s.heap z TI TO .none) (hI:IsPair s.heap TI (.ref i1) (.ref i2)) (hO:IsPair s.heap TO p q) (o1:ok1 k s.heap) (o2:ok2 k s.heap) (e1:v1 k=some x) (e2:v2 k=some y)
  (hQ:∀g,IsZip g z TI TO (rawInt s.heap.objs.size)->IsPair g TO x y->ok1 (k+1) g->ok2 (k+1) g->IsPair g s.heap.objs.size x y->(∀c o,c≠z->c≠TO->c≠i1->c≠i2->s.heap.get? c=some o->g.get? c=some o)->Q (.ref s.heap.objs.size) { s with heap:=g }) :
  wpAny (model P w) A (Builtin.«zip.__next__» ⟨[.ref z],[]⟩) (λfin s'=>∃v,fin = .done (.ret v)/\Q v s') E s:=by
 have n1z:i1≠z:=λe=>D.b1 (e ▸ S1.mem)
 have n2z:i2≠z:=λe=>D.b2 (e ▸ S2.mem)
 have n1O:i1≠TO:=λe=>D.b3 (e ▸ S1.mem)
 have n2O:i2≠TO:=λe=>D.b4 (e ▸ S2.mem)
 show wpAny _ _ (field (.ref z) 2 >>= _) _ E s;refine xA1 (xBl hz rfl (x:=.bool false) rfl ?_);show wpAny _ _ (field (.ref z) 3 >>= _) _ E s;refine xA1 (xBl hz rfl (x:=.ref TI) rfl (xA1 (wpAny_seqItems hI rfl ?_)));show wpAny _ _ (Builtin.SmallTypes.ownedTupleIsFree (.ref z) >>= _) _ E s;refine xA1 ?_;unfold Builtin.SmallTypes.ownedTupleIsFree;refine xA1 (xBl hz rfl (x:=.none) rfl (xA3 ?_));simp only[if_true];refine xA1 (xB9 (xA1 (xBl hz rfl (x:=.ref TO) rfl (xA1 (wpAny_setField_rec hz (by simp) λg1 hz1 t1=>?_)))))
 replace hz1:IsZip g1 z TI TO .ellipsis:=hz1
 refine xA1 ?_;simp only[List.zipIdx_cons,List.zipIdx_nil,List.forIn_cons,List.forIn_nil];refine xA1 (xA1 (wpAny_onRaise ?_));show wpAny _ _ (Builtin.SmallTypes.nextOf (.ref i1) >>= _) _ _ _;refine(xA1 (S1.item k x _ _ _ (S1.ext o1 t1.extBut D.b1) e1 λg2 o12 t2=>xA3 ?_));have hO2:IsPair g2 TO p q:=t2.extBut _ _ (Ne.symm n1O) (t1.extBut _ _ D.a2 hO);refine xA1 (wpAny_seqItems hO2 rfl (xA1 (wpAny_updateSeq_pair hO2 λg3 hO3 t3=>?_)))
 replace hO3:IsPair g3 TO x q:=hO3
 refine xA1 (wpAny_letGo (xA3 ?_));have o23:ok2 k g3:=S2.ext (S2.ext (S2.ext o2 t1.extBut D.b2) t2.extBut D.c1) t3.extBut D.b4;refine xA1 (xA1 (wpAny_onRaise ?_));show wpAny _ _ (Builtin.SmallTypes.nextOf (.ref i2) >>= _) _ _ _;refine(xA1 (S2.item k y _ _ _ o23 e2 λg4 o24 t4=>xA3 ?_));have hO4:IsPair g4 TO x q:=t4.extBut _ _ (Ne.symm n2O) hO3;refine xA1 (wpAny_seqItems hO4 rfl (xA1 (wpAny_updateSeq_pair hO4 λg5 hO5 t5=>?_)))
 replace hO5:IsPair g5 TO x y:=hO5
 refine xA1 (wpAny_letGo (xA3 (xA3 ?_)));refine xA1 (wpAny_seqItems hO5 rfl (xA1 (wpAny_newTuple ?_)));have sz:g5.objs.size=s.heap.objs.size:=by rw[t5.1,t4.1,t3.1,t2.1,t1.1]
 have hz5:IsZip g5 z TI TO .ellipsis:=t5.extBut _ _ (Ne.symm D.a2) (t4.extBut _ _ (Ne.symm n2z) (t3.extBut _ _ (Ne.symm D.a2) (t2.extBut _ _ (Ne.symm n1z) hz1)));have k5:∀c o,c≠z->c≠TO->c≠i1->c≠i2->s.heap.get? c=some o->g5.get? c=some o:=λc o m1 m2 m3 m4 e=>t5.extBut _ _ m2 (t4.extBut _ _ m4 (t3.extBut _ _ m2 (t2.extBut _ _ m3 (t1.extBut _ _ m1 e))))
 have o15:ok1 (k+1) g5:=S1.ext (S1.ext (S1.ext o12 t3.extBut D.b3) t4.extBut D.c2) t5.extBut D.b3;have o25:ok2 (k+1) g5:=S2.ext o24 t5.extBut D.b4;have zlt:z<g5.objs.size:=xAd hz5;show wpAny _ _ (Builtin.SmallTypes.ownedTupleHandOut (.ref z) (.ref g5.objs.size) >>= _) _ E _;refine xA1 ?_;unfold Builtin.SmallTypes.ownedTupleHandOut;have hz6:IsZip (g5.push { cls:=.type "tuple",data:=.seq #[x,y] }) z TI TO .ellipsis:=xA2 _ hz5;refine xA1 (wpAny_setField_rec hz6 (by simp) λg7 hz7 t7=>?_)
 replace hz7:IsZip g7 z TI TO (rawInt g5.objs.size):=hz7
 refine wpAny_setField_rec hz7 (by simp) λg8 hz8 t8=>?_
 replace hz8:IsZip g8 z TI TO (rawInt g5.objs.size):=hz8
 have up:∀c o,c≠z->g5.get? c=some o->g8.get? c=some o:=λc o m e=>t8.extBut _ _ m (t7.extBut _ _ m (xA2 _ e))
 have hT8:IsPair g8 g5.objs.size x y:=t8.extBut _ _ (Nat.ne_of_gt zlt) (t7.extBut _ _ (Nat.ne_of_gt zlt) (xA6 _ rfl));rw[sz]at hz8 hT8;refine xA3 ⟨_,rfl,?_⟩;show Q (.ref g5.objs.size) _;rw[sz];exact hQ g8 hz8 (up _ _ D.a2 hO5) (S1.keep _ _ _ o15 λb hb o e=>up b o (λq=>D.b1 (q ▸ hb)) e) (S2.keep _ _ _ o25 λb hb o e=>up b o (λq=>D.b2 (q ▸ hb)) e) hT8 λc o m1 m2 m3 m4 e=>up c o m1 (k5 c o m1 m2 m3 m4 e)
theorem ygC{k:Nat}{p q:Value}{Q:Fin->Shared->Prop}{E:Value->Shared->Prop}(D:ZAp z TI TO d1 d2 i1 i2)(S1:ydr P w A i1 d1 ok1 v1)(S2:ydr P w A i2 d2 ok2 v2)
  (hz:IsZip s.heap z TI TO .none) (hI:IsPair s.heap TI (.ref i1) (.ref i2)) (hO:IsPair s.heap TO p q) (o1:ok1 k s.heap) (o2:ok2 k s.heap) (he:v1 k=none\/v2 k=none)
  (hE:∀g e,(∀c o,c≠z->c≠TO->c≠i1->c≠i2->s.heap.get? c=some o->g.get? c=some o)->(∃o,g.get? e=some o/\o.cls = .type "StopIteration")->E (.ref e) { s with heap:=g }) :
  wpAny (model P w) A (Builtin.«zip.__next__» ⟨[.ref z],[]⟩) Q E s:=by
 have n1z:i1≠z:=λe=>D.b1 (e ▸ S1.mem)
 have n2z:i2≠z:=λe=>D.b2 (e ▸ S2.mem)
 have n1O:i1≠TO:=λe=>D.b3 (e ▸ S1.mem)
 show wpAny _ _ (field (.ref z) 2 >>= _) _ E s;refine xA1 (xBl hz rfl (x:=.bool false) rfl ?_);show wpAny _ _ (field (.ref z) 3 >>= _) _ E s;refine xA1 (xBl hz rfl (x:=.ref TI) rfl (xA1 (wpAny_seqItems hI rfl ?_)));show wpAny _ _ (Builtin.SmallTypes.ownedTupleIsFree (.ref z) >>= _) _ E s;refine xA1 ?_;unfold Builtin.SmallTypes.ownedTupleIsFree;refine xA1 (xBl hz rfl (x:=.none) rfl (xA3 ?_));simp only[if_true];refine xA1 (xB9 (xA1 (xBl hz rfl (x:=.ref TO) rfl (xA1 (wpAny_setField_rec hz (by simp) λg1 hz1 t1=>?_)))))
 replace hz1:IsZip g1 z TI TO .ellipsis:=hz1
 refine xA1 ?_;simp only[List.zipIdx_cons,List.zipIdx_nil,List.forIn_cons,List.forIn_nil];have o11:ok1 k g1:=S1.ext o1 t1.extBut D.b1;cases e1:v1 k with
 |none=>
  refine xA1 (xA1 (wpAny_onRaise ?_));show wpAny _ _ (Builtin.SmallTypes.nextOf (.ref i1) >>= _) _ _ _;refine(xA1 (S1.stop k _ _ _ o11 e1 λg2 e t2 ⟨oe,he',ce⟩=>?_));have hz2:IsZip g2 z TI TO .ellipsis:=t2 _ _ (Ne.symm n1z) hz1;have ez:e≠z:=λq=>by subst q;rw[hz2]at he';cases he';simp at ce
  exact wpAny_setField_rec hz2 (by simp) λg3 _ t3=>hE g3 e (λc o m1 _ m3 _ x=>t3.extBut _ _ m1 (t2 _ _ m3 (t1.extBut _ _ m1 x))) ⟨oe,t3.extBut _ _ ez he',ce⟩
 |some x=>
  have e2:v2 k=none:=by rcases he with h|h;rw[e1]at h;cases h;exact h
  refine xA1 (xA1 (wpAny_onRaise ?_));show wpAny _ _ (Builtin.SmallTypes.nextOf (.ref i1) >>= _) _ _ _;refine(xA1 (S1.item k x _ _ _ o11 e1 λg2 o12 t2=>xA3 ?_));have hO2:IsPair g2 TO p q:=t2.extBut _ _ (Ne.symm n1O) (t1.extBut _ _ D.a2 hO);refine xA1 (wpAny_seqItems hO2 rfl (xA1 (wpAny_updateSeq_pair hO2 λg3 hO3 t3=>?_)));refine xA1 (wpAny_letGo (xA3 ?_));have o23:ok2 k g3:=S2.ext (S2.ext (S2.ext o2 t1.extBut D.b2) t2.extBut D.c1) t3.extBut D.b4;refine xA1 (xA1 (wpAny_onRaise ?_));show wpAny _ _ (Builtin.SmallTypes.nextOf (.ref i2) >>= _) _ _ _;refine(xA1 (S2.stop k _ _ _ o23 e2 λg4 e t4 ⟨oe,he',ce⟩=>?_));have hz4:IsZip g4 z TI TO .ellipsis:=t4 _ _ (Ne.symm n2z) (t3.extBut _ _ (Ne.symm D.a2) (t2.extBut _ _ (Ne.symm n1z) hz1));have ez:e≠z:=λq=>by subst q;rw[hz4]at he';cases he';simp at ce
  exact wpAny_setField_rec hz4 (by simp) λg5 _ t5=>hE g5 e (λc o m1 m2 m3 m4 x=>t5.extBut _ _ m1 (t4 _ _ m4 (t3.extBut _ _ m2 (t2.extBut _ _ m3 (t1.extBut _ _ m1 x))))) ⟨oe,t5.extBut _ _ ez he',ce⟩
end
end L2
end
section
-- text: ExtC
namespace L2
open PySem PySem.Spec PyProof.Rows
noncomputable def SqB(K:PySem.W.Frag):Bool->Hp->Addr->List V->Prop
 |true=>λH a xs=>SqT K H a xs
 |false=>λH a xs=>SqL K H a xs
noncomputable def ybp:Bool->Heap->Addr->Array Value->Prop
 |true=>λh a xs=>h.IsTuple a xs
 |false=>λh a xs=>h.IsList a xs
noncomputable def ydg:Bool->Heap->Addr->Addr->Nat->Prop
 |true=>λh a l k=>h.IsTupleIter a l k
 |false=>λh a l k=>h.IsListIter a l k
noncomputable def yat(b:Bool)(l:Addr):Obj:={ cls:=.type (if b then "tuple_iterator" else "list_iterator"),data:=.fields #[.ref l,.int 0 0] }
theorem zcy(b:Bool)(h:Heap)(l:Addr)(a:Addr)(e:h.get? a=some (yat b l)):ydg b h a l 0:=by cases b <;> exact⟨_,e,rfl,rfl⟩
theorem ybQ{b:Bool}{h h':Heap}{a l:Addr}{k:Nat}(x:ydg b h a l k)(e:∀o,h.get? a=some o->h'.get? a=some o):ydg b h' a l k:=by
 cases b
 ·exact Heap.IsListIter.at x e
 ·exact zdd x e
theorem zgg{b:Bool}{h h':Heap}{a:Addr}{xs:Array Value}(x:ybp b h a xs)(e:∀o,h.get? a=some o->h'.get? a=some o):ybp b h' a xs:=by
 cases b
 ·exact Heap.IsList.at x e
 ·exact zgV x e
theorem subB{P:Program}{w:World}{A:Around}(b:Bool){a l:Addr}{xs:Array Value}(hh:A.handled=none)(ne:l≠a):ydr P w A a [a,l] (λk h=>ydg b h a l k/\ybp b h l xs) (λk=>xs[k]?):=by
 cases b
 ·exact zhE hh ne
 ·exact zhZ hh ne
theorem ya0{b:Bool}{h:Heap}{a l:Addr}{k:Nat}(x:ydg b h a l k):∃o,h.get? a=some o/\(∀v,o.data≠.cell v)/\(o.cls = .type "tuple_iterator"\/o.cls = .type "list_iterator"):=by
 cases b <;> obtain⟨o,e,c,d⟩:=x
 ·exact⟨o,e,λv q=>(by rw[d]at q;cases q),.inr c⟩
 ·exact⟨o,e,λv q=>(by rw[d]at q;cases q),.inl c⟩
theorem yc7{b:Bool}{h:Heap}{a:Addr}{xs:Array Value}(x:ybp b h a xs):∃o,h.get? a=some o/\(o.cls = .type "tuple"\/o.cls = .type "list"):=by
 cases b <;> obtain⟨o,e,c,d⟩:=x
 ·exact⟨o,e,.inr c⟩
 ·exact⟨o,e,.inl c⟩
theorem ycx{P:Program}{w:World}{A:Around}{E:Value->Shared->Prop}{s:Shared}{b:Bool}{t:Addr}{items:Array Value}{Q:Value->Shared->Prop}(ht:ybp b s.heap t items)
  (hQ:Q (.ref s.heap.objs.size) { s with heap:=s.heap.push (yat b t) }):wpAny (model P w) A (pyIter (.ref t)) Q E s:=by
 cases b
 ·exact wpAny_pyIter_list ht hQ
 ·exact wpAny_pyIter_tuple ht hQ
section
variable {X:Cx} {pins:List (Addr×Obj)} {σ:St} {H:Hp} {s:Shared}
theorem Inv.seqB{b:Bool}{a:Addr}{xs:List V}(I:Inv X pins σ H s)(h:SqB X.K b H a xs):∃its:List Value,Vals xs its/\ybp b s.heap a its.toArray/\xs.length<=sizeLine:=by
 cases b
 ·obtain⟨its,r,p,z⟩:=I.list h;exact⟨its,r,p.isList,z⟩
 ·obtain⟨its,r,p,z⟩:=I.tuple h;exact⟨its,r,p,z⟩
theorem Inv.seqB_inj{b:Bool}{a:Addr}{xs ys:List V}(I:Inv X pins σ H s)(h:SqB X.K b H a xs)(h':SqB X.K b H a ys):xs=ys:=by
 cases b
 ·exact I.list_inj h h'
 ·exact I.tuple_inj h h'
theorem Inv.turnedT{fp:List Addr}{h':Heap}{t':Nat}{T:Addr}{xs:List V}{its:Array Value}(I:Inv X pins σ H s)(hf:∀b∈fp,FpOk X pins H b)(k:∀b o,b∉fp->s.heap.get? b=some o->h'.get? b=some o)
  (hp:s.heap.objs.size<=T) (z:xs.length<=sizeLine) (r:Vals xs its.toList) (new:h'.IsTuple T its):Inv X pins σ (upd H T (.tup xs)) { s with heap:=h',toks:=t' }:=by
 have fT:H T=none:=I.hok.fresh hp;have nT:∀b o,s.heap.get? b=some o->b≠T:=λb o e q=>by
  have l1:s.heap.objs.size>=Nat.succ b:=xAd e;have l2:@Eq Nat b T:=q;lia
 have nfp:∀b u,H b=some u->b∉fp:=λb u e q=>by rw[(hf b q).1]at e;cases e
 refine I.step (g':=s.gens) (d':=s.drawn) (ch:=fp) (λb hb=>⟨(hf b hb).2.2.2.1,(hf b hb).2.1,(hf b hb).2.2.2.2.1,(hf b hb).2.2.2.2.2⟩) (λb o _ _ hc e _=>k b o hc e) (λb o _ _ hc e _=>⟨o.slots,k b o hc e⟩)
  (λb o _ e n=>by rw[yag (nT b o e)];exact n) (λb o hc e=>⟨o,k b o hc e⟩) (λb ys e=>by rw[yag (yaf e fT)];exact e) (λb o u e=>by rw[yag (yaf e fT)];exact e)
  (λb ps e=>⟨#[],by rw[yag (yaf e fT),e];simp⟩) (λm hm=>?_) (λb u e=>?_) I.bare
 ·obtain⟨o,es,ep,ho,q⟩:=hm;exact⟨o,es,ep,k _ o (λhb=>(hf _ hb).2.1 rfl) ho,q⟩
 ·by_cases hb:b=T
  ·subst hb;rw[yaa]at e;cases e;have q:IsTup h' b its:=new;exact⟨z,its.toList,r,by simpa using q⟩
  ·rw[yag hb]at e;refine(I.hok b u e).stay (λc v hc q=>k c v ?_ q) (λc q=>?_) λc ys q=>?_
   ·rcases hc with hc|hc
    ·rw[hc];exact nfp b u e
    ·exact nfp c _ hc
   ·rw[yag (yaf q fT)];exact q
   ·rw[yag (yaf q fT)];exact q
theorem Inv.turnedL{fp:List Addr}{h':Heap}{t':Nat}(I:Inv X pins σ H s)(hf:∀b∈fp,FpOk X pins H b)(k:∀b o,b∉fp->s.heap.get? b=some o->h'.get? b=some o):Inv X pins σ H { s with heap:=h',toks:=t' }:=by
 have nfp:∀b u,H b=some u->b∉fp:=λb u e q=>by rw[(hf b q).1]at e;cases e
 refine I.step (g':=s.gens) (d':=s.drawn) (ch:=fp) (λb hb=>⟨(hf b hb).2.2.2.1,(hf b hb).2.1,(hf b hb).2.2.2.2.1,(hf b hb).2.2.2.2.2⟩) (λb o _ _ hc e _=>k b o hc e) (λb o _ _ hc e _=>⟨o.slots,k b o hc e⟩)
  (λb o _ e n=>n) (λb o hc e=>⟨o,k b o hc e⟩) (λb ys e=>e) (λb o u e=>e) (λb ps e=>⟨#[],by rw[e];simp⟩) (λm hm=>?_) (λb u e=>?_) I.bare
 ·obtain⟨o,es,ep,ho,q⟩:=hm;exact⟨o,es,ep,k _ o (λhb=>(hf _ hb).2.1 rfl) ho,q⟩
 ·refine(I.hok b u e).stay (λc v hc q=>k c v ?_ q) (λc q=>q) λc ys q=>q
  rcases hc with hc|hc
  ·rw[hc];exact nfp b u e
  ·exact nfp c _ hc
end
noncomputable def Itz(K:PySem.W.Frag)(b1 b2:Bool)(l1 l2:Addr):It :=
 ⟨λi H=>∃xs ys x y,SqB K b1 H l1 xs/\SqB K b2 H l2 ys/\xs[i]?=some x/\ys[i]?=some y,
  λi H v H'=>∃T x y,v = .ref T/\H T=none/\H'=upd H T (.tup [x,y])/\(∀xs,SqB K b1 H l1 xs->xs[i]?=some x)/\(∀ys,SqB K b2 H l2 ys->ys[i]?=some y),
  λi H=>∃xs ys,SqB K b1 H l1 xs/\SqB K b2 H l2 ys/\(xs.length<=i\/ys.length<=i)⟩
structure ZSt(b1 b2:Bool)(z TI TO i1 i2 l1 l2:Addr)(k:Nat)(h:Heap):Prop where
 zip:IsZip h z TI TO .none
 ti:IsPair h TI (.ref i1) (.ref i2)
 to:∃a b,IsPair h TO a b
 it1:ydg b1 h i1 l1 k
 it2:ydg b2 h i2 l2 k
theorem ya2{h:Heap}{a b:Addr}{o u:Obj}{x y:String}(e:h.get? a=some o)(e':h.get? b=some u)(ca:o.cls = .type x)(cb:u.cls = .type y)(n:x≠y:=by decide):a≠b:=λq=>by
 subst q;rw[e]at e';cases e';rw[ca]at cb;injection cb with cb;exact n cb
theorem Inv.sq_ne{X:Cx}{pins:List (Addr×Obj)}{σ:St}{H:Hp}{s:Shared}{b:Bool}{l c:Addr}{xs:List V}(I:Inv X pins σ H s)(h:SqB X.K b H l xs)(f:FpOk X pins H c):l≠c:=by
 have key:(∃u,H l=some u)\/∃o,X.K.lookup l=some o:=by
  cases b
  ·rcases h with(h |⟨o,h⟩) |⟨o,_,_,h,_⟩
   ·exact .inl ⟨_,h⟩
   ·exact .inl ⟨_,h⟩
   ·exact .inr ⟨o,h⟩
  ·rcases h with(h |⟨o,h⟩) |⟨o,_,_,h,_⟩
   ·exact .inl ⟨_,h⟩
   ·exact .inl ⟨_,h⟩
   ·exact .inr ⟨o,h⟩
 intro q;subst q;rcases key with⟨u,e⟩ |⟨o,e⟩
 ·rw[f.1]at e;cases e
 ·have eb:=I.ok.mod.kin l o e;rcases f.2.2.2.1 with z|z
  ·exact I.ok.noex l o eb z
  ·have l1:X.base.objs.size>=Nat.succ l:=xAd eb;have l2:X.base.objs.size<=X.s₀.heap.objs.size:=I.ok.bsz;have l3:X.s₀.heap.objs.size<=l:=z;lia
theorem zgD{P:Program}{w:World}{K:PySem.W.Frag}{elts:List Expr}{kk:Nat}{tpos:Pos}(b1 b2:Bool)(z TI TO i1 i2 l1 l2:Addr)(nIO:TI≠TO)(n12:i1≠i2) :
  Turn P w K (.Tuple elts kk tpos) (Itz K b1 b2 l1 l2) [z,TI,TO,i1,i2] z (ZSt b1 b2 z TI TO i1 i2 l1 l2) where
 mem:=xAb
 obj:=λk h S b hb=>by
  obtain⟨p,q,hO⟩:=S.to;obtain⟨o1,e1,d1,_⟩:=ya0 S.it1;obtain⟨o2,e2,d2,_⟩:=ya0 S.it2;simp only[xA9,xAn,xB0]at hb;rcases hb with rfl|rfl|rfl|rfl|rfl
  ·exact⟨_,S.zip,λv q=>by cases q⟩
  ·exact⟨_,S.ti,λv q=>by cases q⟩
  ·exact⟨_,hO,λv q=>by cases q⟩
  ·exact⟨o1,e1,d1⟩
  ·exact⟨o2,e2,d2⟩
 keep:=λk h h' S q=>by
  obtain⟨p,r,hO⟩:=S.to;exact⟨q z (by simp) _ S.zip,q TI (by simp) _ S.ti,⟨p,r,q TO (by simp) _ hO⟩,ybQ S.it1 λo e=>q i1 (by simp) o e,ybQ S.it2 λo e=>q i2 (by simp) o e⟩
 item:=by
  intro X hP hw hK hc i pins s σ H E I hf S hg;subst hP hw hK;obtain⟨xs,ys,x,y,h1,h2,ex,ey⟩:=hg;obtain⟨us,r1,p1,z1⟩:=I.seqB h1;obtain⟨vs,r2,p2,z2⟩:=I.seqB h2;obtain⟨u,eu,ru⟩:=r1.get ex;obtain⟨v,ev,rv⟩:=r2.get ey;obtain⟨p,q,hO⟩:=S.to;obtain⟨o1,e1,_,c1⟩:=ya0 S.it1;obtain⟨o2,e2,_,c2⟩:=ya0 S.it2;obtain⟨q1,f1,g1⟩:=yc7 p1;obtain⟨q2,f2,g2⟩:=yc7 p2;have fz:∀b∈[z,TI,TO,i1,i2],H b=none:=λb hb=>(hf b hb).1
  have hh:X.A.handled=none:=I.ok.hd hc;have nl1:∀b∈[z,TI,TO,i1,i2],l1≠b:=λb hb=>I.sq_ne h1 (hf b hb)
  have nl2:∀b∈[z,TI,TO,i1,i2],l2≠b:=λb hb=>I.sq_ne h2 (hf b hb)
  have i1z:i1≠z:=by rcases c1 with c|c <;> exact ya2 e1 S.zip c rfl
  have i2z:i2≠z:=by rcases c2 with c|c <;> exact ya2 e2 S.zip c rfl
  have i1I:i1≠TI:=by rcases c1 with c|c <;> exact ya2 e1 S.ti c rfl
  have i2I:i2≠TI:=by rcases c2 with c|c <;> exact ya2 e2 S.ti c rfl
  have i1O:i1≠TO:=by rcases c1 with c|c <;> exact ya2 e1 hO c rfl
  have i2O:i2≠TO:=by rcases c2 with c|c <;> exact ya2 e2 hO c rfl
  have Iz:TI≠z:=ya2 S.ti S.zip rfl rfl;have Oz:TO≠z:=ya2 hO S.zip rfl rfl;have D:ZAp z TI TO [i1,l1] [i2,l2] i1 i2:=by
   refine⟨Iz,Oz,nIO,?_,?_,?_,?_,Ne.symm i1I,Ne.symm i2I,?_,?_⟩
   ·simp only[xA9,xAn,xB0,not_or];exact⟨Ne.symm i1z,Ne.symm (nl1 z (by simp))⟩
   ·simp only[xA9,xAn,xB0,not_or];exact⟨Ne.symm i2z,Ne.symm (nl2 z (by simp))⟩
   ·simp only[xA9,xAn,xB0,not_or];exact⟨Ne.symm i1O,Ne.symm (nl1 TO (by simp))⟩
   ·simp only[xA9,xAn,xB0,not_or];exact⟨Ne.symm i2O,Ne.symm (nl2 TO (by simp))⟩
   ·simp only[xA9,xAn,xB0,not_or];exact⟨n12,Ne.symm (nl2 i1 (by simp))⟩
   ·simp only[xA9,xAn,xB0,not_or];exact⟨Ne.symm n12,Ne.symm (nl1 i2 (by simp))⟩
  have hT:s.TypeIs (.ref z) "zip":=⟨_,S.zip,rfl⟩
  unfold pyNext;refine xA1 (wpAny_attempt (xAV (name:=Str.ofString "__next__") hT F.slot_zip_next (xAX F.slot_zip_next hT F.entry_zip_next
   (zf5 D (subB b1 (A:=X.A.in1) hh (nl1 i1 (by simp))) (subB b2 (A:=X.A.in1) hh (nl2 i2 (by simp))) S.zip S.ti hO ⟨S.it1,p1⟩ ⟨S.it2,p2⟩ (x:=u) (y:=v) (by simpa using eu) (by simpa using ev)
    λg a1 a2 a3 a4 a5 a6=>xA3 ?_) (F.args_zip_next_1 _))))
  refine⟨_,rfl,wpAny_letOwnedTupleGo_zip (s:={ s with heap:=g }) a1 λg' hz' t=>?_⟩;have lt:∀ {c:Addr} {o:Obj},s.heap.get? c=some o->s.heap.objs.size≠c:=λe=>Nat.ne_of_gt (xAd e)
  have k':∀b o,b∉[z,TI,TO,i1,i2]->s.heap.get? b=some o->g'.get? b=some o:=λb o hb e=>by
   simp only[xA9,xAn,xB0,not_or]at hb;exact t.extBut b o hb.1 (a6 b o hb.1 hb.2.2.1 hb.2.2.2.1 hb.2.2.2.2 e)
  have hTI':IsPair g' TI (.ref i1) (.ref i2):=t.extBut _ _ Iz (a6 _ _ Iz nIO (Ne.symm i1I) (Ne.symm i2I) S.ti);have hS':ZSt b1 b2 z TI TO i1 i2 l1 l2 (i+1) g':=⟨hz',hTI',⟨_,_,t.extBut _ _ Oz a2⟩,ybQ a3.1 λo e=>t.extBut _ _ i1z e,ybQ a4.1 λo e=>t.extBut _ _ i2z e⟩
  have fT:H s.heap.objs.size=none:=I.hok.fresh (xA4 _);have J:Inv X pins σ (upd H s.heap.objs.size (.tup [x,y])) { s with heap:=g' }:=I.turnedT (t':=s.toks) (fp:=[z,TI,TO,i1,i2]) hf k' (xA4 _) (by show 2<=sizeLine;decide) (its:=#[u,v]) (.cons ru (.cons rv .nil)) ⟨_,t.extBut _ _ (lt S.zip) a5,rfl,_,rfl⟩;refine⟨.ref s.heap.objs.size,upd H s.heap.objs.size (.tup [x,y]),J,rfl,
   ⟨_,x,y,rfl,fT,rfl,λxs' hx'=>by rw[I.seqB_inj hx' h1];exact ex,λys' hy'=>by rw[I.seqB_inj hy' h2];exact ey⟩,hS',λb hb=>?_⟩
  have fobj:∃o,s.heap.get? b=some o:=by
   simp only[xA9,xAn,xB0]at hb;rcases hb with rfl|rfl|rfl|rfl|rfl
   ·exact⟨_,S.zip⟩
   ·exact⟨_,S.ti⟩
   ·exact⟨_,hO⟩
   ·exact⟨_,e1⟩
   ·exact⟨_,e2⟩
  obtain⟨o,eo⟩:=fobj;rw[yag (Ne.symm (lt eo))];exact fz b hb
 done:=by
  intro X hP hw hK hc i pins s σ H E I hf S hg;subst hP hw hK;obtain⟨xs,ys,h1,h2,le⟩:=hg;obtain⟨us,r1,p1,z1⟩:=I.seqB h1;obtain⟨vs,r2,p2,z2⟩:=I.seqB h2;obtain⟨p,q,hO⟩:=S.to;obtain⟨o1,e1,_,c1⟩:=ya0 S.it1;obtain⟨o2,e2,_,c2⟩:=ya0 S.it2;have hh:X.A.handled=none:=I.ok.hd hc;have nl1:∀b∈[z,TI,TO,i1,i2],l1≠b:=λb hb=>I.sq_ne h1 (hf b hb)
  have nl2:∀b∈[z,TI,TO,i1,i2],l2≠b:=λb hb=>I.sq_ne h2 (hf b hb)
  have i1z:i1≠z:=by rcases c1 with c|c <;> exact ya2 e1 S.zip c rfl
  have i2z:i2≠z:=by rcases c2 with c|c <;> exact ya2 e2 S.zip c rfl
  have i1I:i1≠TI:=by rcases c1 with c|c <;> exact ya2 e1 S.ti c rfl
  have i2I:i2≠TI:=by rcases c2 with c|c <;> exact ya2 e2 S.ti c rfl
  have i1O:i1≠TO:=by rcases c1 with c|c <;> exact ya2 e1 hO c rfl
  have i2O:i2≠TO:=by rcases c2 with c|c <;> exact ya2 e2 hO c rfl
  have Iz:TI≠z:=ya2 S.ti S.zip rfl rfl;have Oz:TO≠z:=ya2 hO S.zip rfl rfl;have D:ZAp z TI TO [i1,l1] [i2,l2] i1 i2:=by
   refine⟨Iz,Oz,nIO,?_,?_,?_,?_,Ne.symm i1I,Ne.symm i2I,?_,?_⟩
   ·simp only[xA9,xAn,xB0,not_or];exact⟨Ne.symm i1z,Ne.symm (nl1 z (by simp))⟩
   ·simp only[xA9,xAn,xB0,not_or];exact⟨Ne.symm i2z,Ne.symm (nl2 z (by simp))⟩
   ·simp only[xA9,xAn,xB0,not_or];exact⟨Ne.symm i1O,Ne.symm (nl1 TO (by simp))⟩
   ·simp only[xA9,xAn,xB0,not_or];exact⟨Ne.symm i2O,Ne.symm (nl2 TO (by simp))⟩
   ·simp only[xA9,xAn,xB0,not_or];exact⟨n12,Ne.symm (nl2 i1 (by simp))⟩
   ·simp only[xA9,xAn,xB0,not_or];exact⟨Ne.symm n12,Ne.symm (nl1 i2 (by simp))⟩
  have he:us.toArray[i]?=none\/vs.toArray[i]?=none:=by
   have l1:=r1.length;have l2:=r2.length;rcases le with l|l
   ·exact .inl (by simp;lia)
   ·exact .inr (by simp;lia)
  have hT:s.TypeIs (.ref z) "zip":=⟨_,S.zip,rfl⟩
  unfold pyNext;refine xA1 (wpAny_attempt (xAV (name:=Str.ofString "__next__") hT F.slot_zip_next (xAX F.slot_zip_next hT F.entry_zip_next
   (ygC D (subB b1 (A:=X.A.in1) hh (nl1 i1 (by simp))) (subB b2 (A:=X.A.in1) hh (nl2 i2 (by simp))) S.zip S.ti hO ⟨S.it1,p1⟩ ⟨S.it2,p2⟩ he λg e kg ⟨oe,ho,hce⟩=>?_) (F.args_zip_next_1 _))))
  refine xA1 (wpAny_isInstance (T:="StopIteration") (b:=true) ⟨oe,ho,hce⟩ isSubtype_stop (xA3 ⟨rfl,?_⟩));refine I.turnedL (t':=s.toks) (fp:=[z,TI,TO,i1,i2]) hf λb o hb e=>?_
  simp only[xA9,xAn,xB0,not_or]at hb;exact kg b o hb.1 hb.2.2.1 hb.2.2.2.1 hb.2.2.2.2 e
 self:=λA i s Q E S h=>wpAny_pyIter_zip S.zip h
noncomputable def zfG(h:Heap)(o1 o2:Obj):Heap:=(((h.push o1).push o2).push { cls:=.type "tuple",data:=.seq #[.ref h.objs.size,.ref (h.push o1).objs.size] }).push { cls:=.type "tuple",data:=.seq #[.none,.none] }
noncomputable def zc2(h:Heap)(o1 o2:Obj):Heap:=(zfG h o1 o2).push { cls:=.type "zip",data:=.fields #[.none,.bool false,.bool false,.ref ((h.push o1).push o2).objs.size,.ref (((h.push o1).push o2).push { cls:=.type "tuple",data:=.seq #[.ref h.objs.size,.ref (h.push o1).objs.size] }).objs.size] }
theorem zfe(b1 b2:Bool)(l1 l2:Addr)(xs ys:Array Value) :
  Meets (Builtin.«zip.__new__» ⟨[.type "zip",.ref l1,.ref l2],[]⟩) (λ_ R s=>ybp b1 s.heap l1 xs/\ybp b2 s.heap l2 ys/\R (.ok (.ret (.ref (zfG s.heap (yat b1 l1) (yat b2 l2)).objs.size))) { s with heap:=zc2 s.heap (yat b1 l1) (yat b2 l2) }) :=
 .of_wp λprog w A R s h=>by
  obtain⟨hp,g,d,tk,os⟩:=s;obtain⟨hl1,hl2,h⟩:=h;have hsub:=sub_zip;have hL1:ybp b1 (Shared.heap ⟨hp,g,d,tk,os⟩) l1 xs:=hl1;have hL2:ybp b2 (Shared.heap ⟨hp.push (yat b1 l1),g,d,tk,os⟩) l2 ys:=zgg hl2 λo e=>xA2 _ e
  wp_walk using ycx hL1,ycx hL2
  exact⟨_,rfl,h⟩
end L2
end
section
-- text: ExtD
namespace L2
open PySem PySem.Spec PyProof.Rows
section
variable {X:Cx}
noncomputable def iZip(K:PySem.W.Frag)(ta:TA):TI:=λσ H R=>ta σ H λvs H1=>∃b1 b2 a1 a2,vs=[.ref a1,.ref a2]/\(∃xs,SqB K b1 H1 a1 xs)/\(∃ys,SqB K b2 H1 a2 ys)/\R (Itz K b1 b2 a1 a2) H1
theorem yhJ{pins:List (Addr×Obj)}{σ:St}{H:Hp}{s:Shared}{R:It->Hp->Prop}{elts:List Expr}{kk:Nat}{tpos:Pos}{b1 b2:Bool}{l1 l2:Addr}{xs ys:List V}(I:Inv X pins σ H s)(h1:SqB X.K b1 H l1 xs)(h2:SqB X.K b2 H l2 ys)(q:R (Itz X.K b1 b2 l1 l2) H) :
  wpAny (model X.prog X.w) X.A (call (.type "zip") [.ref l1,.ref l2]) (λv s1=>wpAny (model X.prog X.w) X.A (pyIter v) (PIE X pins σ (.Tuple elts kk tpos) R) X.xe s1) X.xe s:=by
 obtain⟨us,r1,p1,z1⟩:=I.seqB h1;obtain⟨vs,r2,p2,z2⟩:=I.seqB h2;refine callType_new F.called_zip (by decide) (F.typeCall_zip_2 _ _) (F.newCall_zip_2 _ _) (λobj=>F.args_object_init_3 obj _ _) F.entry_zip_new (zfe b1 b2 l1 l2 us.toArray vs.toArray) ⟨p1,p2,?_⟩;generalize hn:s.heap.objs.size=n;have s1:(s.heap.push (yat b1 l1)).objs.size=n+1:=by rw[xB6,hn]
 have s2:((s.heap.push (yat b1 l1)).push (yat b2 l2)).objs.size=n+2:=by rw[xB6,s1]
 have s3:(((s.heap.push (yat b1 l1)).push (yat b2 l2)).push { cls:=.type "tuple",data:=.seq #[.ref s.heap.objs.size,.ref (s.heap.push (yat b1 l1)).objs.size] }).objs.size=n+3:=by rw[xB6,s2]
 have s4:(zfG s.heap (yat b1 l1) (yat b2 l2)).objs.size=n+4:=by unfold zfG;rw[xB6,s3]
 have old:∀b o,s.heap.get? b=some o->(zc2 s.heap (yat b1 l1) (yat b2 l2)).get? b=some o:=λb o e=>xA2 _ (xA2 _ (xA2 _ (xA2 _ (xA2 _ e))))
 have gz:(zc2 s.heap (yat b1 l1) (yat b2 l2)).get? (n+4)=some { cls:=.type "zip",data:=.fields #[.none,.bool false,.bool false,.ref (n+2),.ref (n+3)] }:=by
  have e:(zc2 s.heap (yat b1 l1) (yat b2 l2)).get? (zfG s.heap (yat b1 l1) (yat b2 l2)).objs.size=some _:=xA6 _ rfl;rw[s4]at e;rw[e,s2,s3]
 have gO:(zc2 s.heap (yat b1 l1) (yat b2 l2)).get? (n+3)=some { cls:=.type "tuple",data:=.seq #[.none,.none] }:=by
  have e:=xA6 (h:=((s.heap.push (yat b1 l1)).push (yat b2 l2)).push { cls:=.type "tuple",data:=.seq #[.ref s.heap.objs.size,.ref (s.heap.push (yat b1 l1)).objs.size] }) (o:={ cls:=.type "tuple",data:=.seq #[.none,.none] }) rfl;rw[s3]at e;exact xA2 _ e
 have gI:(zc2 s.heap (yat b1 l1) (yat b2 l2)).get? (n+2)=some { cls:=.type "tuple",data:=.seq #[.ref n,.ref (n+1)] }:=by
  have e:(zc2 s.heap (yat b1 l1) (yat b2 l2)).get? ((s.heap.push (yat b1 l1)).push (yat b2 l2)).objs.size=some { cls:=.type "tuple",data:=.seq #[.ref s.heap.objs.size,.ref (s.heap.push (yat b1 l1)).objs.size] }:=xA2 _ (xA2 _ (xA6 _ rfl));rw[s2]at e;rw[e,s1,hn]
 have g2:(zc2 s.heap (yat b1 l1) (yat b2 l2)).get? (n+1)=some (yat b2 l2):=by
  have e:=xA6 (h:=s.heap.push (yat b1 l1)) (o:=yat b2 l2) rfl;rw[s1]at e;exact xA2 _ (xA2 _ (xA2 _ e))
 have g1:(zc2 s.heap (yat b1 l1) (yat b2 l2)).get? n=some (yat b1 l1):=by
  have e:=xA6 (h:=s.heap) (o:=yat b1 l1) rfl;rw[hn]at e;exact xA2 _ (xA2 _ (xA2 _ (xA2 _ e)))
 rw[s4];refine⟨⟨_,gz,rfl⟩,wpAny_pyIter_zip gz ?_⟩;have I1:Inv X pins σ H { s with heap:=zc2 s.heap (yat b1 l1) (yat b2 l2) }:=I.kept (t':=s.toks) old;refine⟨n+4,[n+4,n+2,n+3,n,n+1],_,_,H,rfl,I1,zgD b1 b2 (n+4) (n+2) (n+3) n (n+1) l1 l2 (show @Ne Nat _ _ by lia) (show @Ne Nat _ _ by lia),⟨gz,gI,⟨_,_,gO⟩,zcy _ _ _ _ g1,zcy _ _ _ _ g2⟩,λb hb=>?_,q⟩;have le:s.heap.objs.size<=b:=by
  rw[hn];simp only[xA9,xAn,xB0]at hb;show @LE.le Nat _ n b;rcases hb with e|e|e|e|e <;> (have e':@Eq Nat b _:=e;lia)
 exact I.fpOk le (I.hok.fresh le)
theorem zg0{a b:Expr}{ta:TA}{p pos:Pos}{elts:List Expr}{kk:Nat}{tpos:Pos}(hg:Gl X "zip")(hm:X.mg "zip"=none)(ha:PA X [a,b] ta)(hs:starEach [a,b] X.env=[(false,eval a X.env),(false,eval b X.env)]:=by rfl)(hs2:starEach [b] X.env=[(false,eval b X.env)]:=by rfl) :
  PI X (.Tuple elts kk tpos) (.Call (.Name "zip" p) [a,b] [] pos) (iZip X.K ta):=by
 intro pins s σ H R I h;refine Call_ (ybF I hg hm (u:=.type "zip") boot_zip (xAY (thn (ha pos pins s σ H _ I h) λus s1 ⟨vs,H1,I1,r1,q1⟩=>?_) (by rw[hs,hs2]) (by rw[hs2];rfl)));obtain⟨b1,b2,a1,a2,e,⟨xs,h1⟩,⟨ys,h2⟩,q⟩:=q1;subst e;cases r1 with
 |cons r rr=>
  cases rr with
  |cons r' rr=>
   cases rr;cases r;cases r';exact yhJ I1 h1 h2 q
end
end L2
end
section
-- text: ExtE
namespace L2
open PySem PySem.Spec PyProof.Rows
noncomputable def Ite(K:PySem.W.Frag)(b:Bool)(l:Addr):It :=
 ⟨λi H=>∃xs x,SqB K b H l xs/\xs[i]?=some x,
  λi H v H'=>∃T x,v = .ref T/\H T=none/\H'=upd H T (.tup [.int i,x])/\(∀xs,SqB K b H l xs->xs[i]?=some x),
  λi H=>∃xs,SqB K b H l xs/\xs.length<=i⟩
theorem zh6{P:Program}{w:World}{A:Around}(b:Bool){a l:Addr}{xs:Array Value}(hh:A.handled=none)(ne:l≠a):Draws P w A a [a,l] xs.size (λi v=>xs[i]?=some v) (λk h=>ydg b h a l k/\ybp b h l xs) where
 live:=λk h z=>let ⟨o,e,_⟩:=(subB (P:=P) (w:=w) b hh ne).obj k h z;⟨o,e⟩
 frame:=λk h h' z q=>(subB (P:=P) (w:=w) b hh ne).keep k h h' z q
 item:=λk s Q E hk z q=>by
  have hx:xs[k]?=some xs[k]:=xAM hk;exact(subB (P:=P) (w:=w) b hh ne).item k xs[k] s Q E z hx λh' a1 a2=>q xs[k] h' s.toks hx a1 a2
 done:=λs Q E z q=>(subB (P:=P) (w:=w) b hh ne).stop xs.size s Q E z (Array.getElem?_eq_none (xA4 _)) q
structure ESt(b:Bool)(e it l:Addr)(k:Nat)(h:Heap):Prop where
 en:∃old,IsEnum h e it k old
 it:ydg b h it l k
theorem zfZ{P:Program}{w:World}{K:PySem.W.Frag}{elts:List Expr}{kk:Nat}{tpos:Pos}(b:Bool)(e it l:Addr) :
  Turn P w K (.Tuple elts kk tpos) (Ite K b l) [e,it] e (ESt b e it l) where
 mem:=xAb
 obj:=λk h S c hc=>by
  obtain⟨old,he⟩:=S.en;obtain⟨o1,e1,d1,_⟩:=ya0 S.it;simp only[xA9,xAn,xB0]at hc;rcases hc with rfl|rfl
  ·exact⟨_,he,λv q=>by cases q⟩
  ·exact⟨o1,e1,d1⟩
 keep:=λk h h' S q=>by
  obtain⟨old,he⟩:=S.en;exact⟨⟨old,q e (by simp) _ he⟩,ybQ S.it λo x=>q it (by simp) o x⟩
 item:=by
  intro X hP hw hK hc i pins s σ H E I hf S hg;subst hP hw hK;obtain⟨xs,x,h1,ex⟩:=hg;obtain⟨us,r1,p1,z1⟩:=I.seqB h1;obtain⟨u,eu,ru⟩:=r1.get ex;obtain⟨old,he⟩:=S.en;obtain⟨o1,e1,_,c1⟩:=ya0 S.it;have hh:X.A.handled=none:=I.ok.hd hc;have nl:∀c∈[e,it],l≠c:=λc hc=>I.sq_ne h1 (hf c hc)
  have ei:e≠it:=by rcases c1 with c|c <;> exact ya2 he e1 rfl c
  have ilt:i<us.toArray.size:=by
   have:=(xAk.mp eu).1
   simpa using this
  refine wpAny_pyNext_enum_itemD (zh6 b (A:=X.A.in1) hh (nl it (by simp))) he ⟨S.it,p1⟩ ilt ei (by simp only[xA9,xAn,xB0,not_or];exact⟨ei,Ne.symm (nl e (by simp))⟩) λy g tk hy a1 a2 a3 a4 a5=>?_
  have ey:y=u:=by
   have q1:us[i]?=some y:=by simpa using hy
   rw[eu]at q1;cases q1;rfl
  subst ey;refine⟨_,rfl,wpAny_letOwnedTupleGo_enum (s:={ s with heap:=g,toks:=tk+1 }) a1 λg' he' t=>?_⟩;have lt:∀ {c:Addr} {o:Obj},s.heap.get? c=some o->s.heap.objs.size≠c:=λq=>Nat.ne_of_gt (xAd q)
  have k':∀c o,c∉[e,it]->s.heap.get? c=some o->g'.get? c=some o:=λc o hc q=>by
   simp only[xA9,xAn,xB0,not_or]at hc;exact t.extBut c o hc.1 (a5 c o hc.1 hc.2 q)
  have hS':ESt b e it l (i+1) g':=⟨⟨_,by simpa using he'⟩,ybQ a2.1 λo q=>t.extBut _ _ (Ne.symm ei) q⟩
  have fT:H s.heap.objs.size=none:=I.hok.fresh (xA4 _);have J:Inv X pins σ (upd H s.heap.objs.size (.tup [.int i,x])) { s with heap:=g',toks:=tk+1 } :=
   I.turnedT (t':=tk+1) (fp:=[e,it]) hf k' (xA4 _) (by show 2<=sizeLine;decide) (its:=#[.int i tk,y]) (.cons ⟨_,rfl⟩ (.cons ru .nil)) ⟨_,t.extBut _ _ (lt he) a3,rfl,_,rfl⟩
  refine⟨.ref s.heap.objs.size,upd H s.heap.objs.size (.tup [.int i,x]),J,rfl,⟨_,x,rfl,fT,rfl,λxs' hx'=>by rw[I.seqB_inj hx' h1];exact ex⟩,hS',λc hc=>?_⟩;have fobj:∃o,s.heap.get? c=some o:=by
   simp only[xA9,xAn,xB0]at hc;rcases hc with rfl|rfl
   ·exact⟨_,he⟩
   ·exact⟨_,e1⟩
  obtain⟨o,eo⟩:=fobj;rw[yag (Ne.symm (lt eo))];exact(hf c hc).1
 done:=by
  intro X hP hw hK hc i pins s σ H E I hf S hg;subst hP hw hK;obtain⟨xs,h1,le⟩:=hg;obtain⟨us,r1,p1,z1⟩:=I.seqB h1;obtain⟨old,he⟩:=S.en;have hh:X.A.handled=none:=I.ok.hd hc;have nl:∀c∈[e,it],l≠c:=λc hc=>I.sq_ne h1 (hf c hc)
  have D:=subB (P:=X.prog) (w:=X.w) b (A:=X.A.in1) (xs:=us.toArray) hh (nl it (by simp));have hT:s.TypeIs (.ref e) "enumerate":=⟨_,he,rfl⟩
  unfold pyNext;refine xA1 (wpAny_attempt (xAV (name:=Str.ofString "__next__") hT F.slot_enumerate_next (xAX F.slot_enumerate_next hT F.entry_enumerate_next ?_ (F.args_enumerate_next_1 _))));show wpAny _ _ (field (.ref e) 2 >>= _) _ _ s;refine xA1 (xBl he rfl (x:=.ref it) rfl ?_);refine xA1 (D.stop i _ _ _ ⟨S.it,p1⟩ (by have:=r1.length;simp;lia) λg x t ⟨o,ho,hce⟩=>?_);refine xA1 (wpAny_isInstance (T:="StopIteration") (b:=true) ⟨o,ho,hce⟩ isSubtype_stop (xA3 ⟨rfl,?_⟩));refine I.turnedL (t':=s.toks) (fp:=[e,it]) hf λc o hc q=>?_
  simp only[xA9,xAn,xB0,not_or]at hc;exact t c o hc.2 q
 self:=λA i s Q E S h=>let ⟨_,he⟩:=S.en;wpAny_pyIter_enum he h
theorem yeF(b:Bool)(l:Addr)(xs:Array Value)(n:Nat)(dct:Option Addr)(sl:Array (Option Value)) :
  Meets (Builtin.«enumerate.__new__» ⟨[.type "enumerate",.ref l],[]⟩) (λ_ R s=>s.heap.get? l=some { cls:=.type (if b then "tuple" else "list"),dict:=dct,data:=.seq xs n,slots:=sl }/\R (.ok (.ret (.ref (s.heap.push (yat b l)).objs.size))) { s with heap:=(s.heap.push (yat b l)).push { cls:=.type "enumerate",data:=.fields #[.none,.bool false,.ref s.heap.objs.size,rawInt 0,.none,.none] } }) :=
 .of_wp λprog w A R s h=>by
  obtain⟨hp,g,d,tk,os⟩:=s;obtain⟨hl,h⟩:=h;have hsub:=sub_enumerate;have hL:ybp b (Shared.heap ⟨hp,g,d,tk,os⟩) l xs:=by cases b <;> exact⟨_,hl,rfl,n,rfl⟩
  wp_walk using wpAny_loadPart' hl;(refine wpAny_stack_any λst=>xA3 ?_);split
  ·rename_i c _ _ _ _ _;cases (c==Value.type "enumerate") <;> (wp_walk using wpAny_loadPart' hl,ycx hL;exact⟨_,rfl,h⟩)
  ·wp_walk using wpAny_loadPart' hl,ycx hL;exact⟨_,rfl,h⟩
theorem yen{b:Bool}{h:Heap}{l:Addr}{xs:Array Value}(x:ybp b h l xs):∃n dct sl,h.get? l=some { cls:=.type (if b then "tuple" else "list"),dict:=dct,data:=.seq xs n,slots:=sl }:=by
 cases b <;> obtain⟨⟨c,dct,dt,sl⟩,e,hc,n,hd⟩:=x
 ·replace hc:c = .type "list":=hc
  replace hd:dt = .seq xs n:=hd
  subst hc hd;exact⟨n,dct,sl,e⟩
 ·replace hc:c = .type "tuple":=hc
  replace hd:dt = .seq xs n:=hd
  subst hc hd;exact⟨n,dct,sl,e⟩
section
variable {X:Cx}
noncomputable def zis(K:PySem.W.Frag)(ta:TA):TI:=λσ H R=>ta σ H λvs H1=>∃b a,vs=[.ref a]/\(∃xs,SqB K b H1 a xs)/\R (Ite K b a) H1
theorem yhG{pins:List (Addr×Obj)}{σ:St}{H:Hp}{s:Shared}{R:It->Hp->Prop}{elts:List Expr}{kk:Nat}{tpos:Pos}{b:Bool}{l:Addr}{xs:List V}(I:Inv X pins σ H s)(h1:SqB X.K b H l xs)(q:R (Ite X.K b l) H) :
  wpAny (model X.prog X.w) X.A (call (.type "enumerate") [.ref l]) (λv s1=>wpAny (model X.prog X.w) X.A (pyIter v) (PIE X pins σ (.Tuple elts kk tpos) R) X.xe s1) X.xe s:=by
 obtain⟨us,r1,p1,z1⟩:=I.seqB h1;obtain⟨m,dct,sl,hl⟩:=yen p1;refine callType_new F.called_enumerate (by decide) (F.typeCall_enumerate_1 _) (F.newCall_enumerate_1 _) (λobj=>F.args_object_init_2 obj _) F.entry_enumerate_new (yeF b l us.toArray m dct sl) ⟨hl,?_⟩;generalize hn:s.heap.objs.size=n;have s1:(s.heap.push (yat b l)).objs.size=n+1:=by rw[xB6,hn]
 generalize hG:(s.heap.push (yat b l)).push { cls:=.type "enumerate",data:=.fields #[.none,.bool false,.ref n,rawInt 0,.none,.none] }=G;have old:∀c o,s.heap.get? c=some o->G.get? c=some o:=λc o e=>hG ▸ xA2 _ (xA2 _ e)
 have ge:IsEnum G (n+1) n 0 .none:=by
  have e:G.get? (s.heap.push (yat b l)).objs.size=some { cls:=.type "enumerate",data:=.fields #[.none,.bool false,.ref n,rawInt 0,.none,.none] }:=hG ▸ xA6 _ rfl;rw[s1]at e;exact e
 have gi:G.get? n=some (yat b l):=by
  have e:G.get? s.heap.objs.size=some (yat b l):=hG ▸ xA2 _ (xA6 _ rfl);rw[hn]at e;exact e
 rw[s1];refine⟨⟨_,ge,rfl⟩,wpAny_pyIter_enum ge ?_⟩;have I1:Inv X pins σ H { s with heap:=G }:=I.kept (t':=s.toks) old;refine⟨n+1,[n+1,n],_,_,H,rfl,I1,zfZ b (n+1) n l,⟨⟨_,ge⟩,zcy _ _ _ _ gi⟩,λc hc=>?_,q⟩;have le:s.heap.objs.size<=c:=by
  rw[hn];simp only[xA9,xAn,xB0]at hc;show @LE.le Nat _ n c;rcases hc with e|e <;> (have e':@Eq Nat c _:=e;lia)
 exact I.fpOk le (I.hok.fresh le)
theorem ybC{a:Expr}{ta:TA}{p pos:Pos}{elts:List Expr}{kk:Nat}{tpos:Pos}(hg:Gl X "enumerate")(hm:X.mg "enumerate"=none)(ha:PA X [a] ta)(hs:starEach [a] X.env=[(false,eval a X.env)]:=by rfl) :
  PI X (.Tuple elts kk tpos) (.Call (.Name "enumerate" p) [a] [] pos) (zis X.K ta):=by
 intro pins s σ H R I h;refine Call_ (ybF I hg hm (u:=.type "enumerate") boot_enumerate (xAY (thn (ha pos pins s σ H _ I h) λus s1 ⟨vs,H1,I1,r1,q1⟩=>?_) hs rfl));obtain⟨b,a,e,⟨xs,h1⟩,q⟩:=q1;subst e;cases r1 with
 |cons r rr=>
  cases rr;cases r;exact yhG I1 h1 q
end
structure Seqs(J:It)(n:Nat)(G:Hp->Prop)(y:Nat->V->Hp->Hp->Prop):Prop where
 go:∀i H,i<n->G H->J.go i H
 stop:∀H,G H->J.stop n H
 yld:∀i H x H',i<n->G H->J.yld i H x H'->y i x H H'
theorem yaE{K:PySem.W.Frag}{a:Addr}{xs:List V}:Seqs (Itl K a) xs.length (λH=>SqL K H a xs) (λi x H H'=>H'=H/\xs[i]?=some x) :=
 ⟨λi H hi g=>⟨xs,xs[i],g,by simp[hi]⟩,λH g=>⟨xs,g,xA4 _⟩,λi H x H' hi g q=>⟨q.1,q.2 xs g⟩⟩
theorem zbt{K:PySem.W.Frag}{a:Addr}{xs:List V}:Seqs (Itt K a) xs.length (λH=>SqT K H a xs) (λi x H H'=>H'=H/\xs[i]?=some x) :=
 ⟨λi H hi g=>⟨xs,xs[i],g,by simp[hi]⟩,λH g=>⟨xs,g,xA4 _⟩,λi H x H' hi g q=>⟨q.1,q.2 xs g⟩⟩
theorem zbn{lo:Int}{n:Nat}:Seqs (Itr lo n) n (λ_=>True) (λi x H H'=>H'=H/\x = .int (lo+i)) :=
 ⟨λi H hi _=>hi,λH _=>xA4 _,λi H x H' hi _ q=>q⟩
theorem zeP{K:PySem.W.Frag}{b1 b2:Bool}{l1 l2:Addr}{xs ys:List V}:Seqs (Itz K b1 b2 l1 l2) (min xs.length ys.length) (λH=>SqB K b1 H l1 xs/\SqB K b2 H l2 ys)
  (λi x H H'=>∃T u v,x = .ref T/\xs[i]?=some u/\ys[i]?=some v/\H T=none/\H'=upd H T (.tup [u,v])) :=
 ⟨λi H hi g=>⟨xs,ys,xs[i]'(by lia),ys[i]'(by lia),g.1,g.2,by simp,by simp⟩,
  λH g=>⟨xs,ys,g.1,g.2,by lia⟩,
  λi H x H' hi g ⟨T,u,v,e1,e2,e3,e4,e5⟩=>⟨T,u,v,e1,e4 xs g.1,e5 ys g.2,e2,e3⟩⟩
theorem ya1{K:PySem.W.Frag}{b:Bool}{l:Addr}{xs:List V}:Seqs (Ite K b l) xs.length (λH=>SqB K b H l xs)
  (λi x H H'=>∃T u,x = .ref T/\xs[i]?=some u/\H T=none/\H'=upd H T (.tup [.int i,u])) :=
 ⟨λi H hi g=>⟨xs,xs[i],g,by simp[hi]⟩,λH g=>⟨xs,g,xA4 _⟩,λi H x H' hi g ⟨T,u,e1,e2,e3,e4⟩=>⟨T,u,e1,e4 xs g,e2,e3⟩⟩
theorem yaM{J:It}{n:Nat}{G:Hp->Prop}{y:Nat->V->Hp->Hp->Prop}(S:Seqs J n G y){g:TG}{tb:TS}{D:Ends}{σ:St}{H:Hp}(Pv:Nat->St->Hp->Prop)(h0:Pv 0 σ H)(hl:∀i σ H,i<=n->Pv i σ H->G H)
  (hs:∀i x σ H H',i<n->Pv i σ H->y i x H H'->g x σ H' λσ2 H2=>tb { D with nx:=Pv (i+1),ct:=Pv (i+1),bk:=D.nx } σ2 H2) (hd:∀σ H,Pv n σ H->D.nx σ H) :
  ∃W:Nat->Nat->St->Hp->Prop,(∃m,W 0 m σ H)/\∀i m σ H,W i m σ H->
   (J.stop i H/\D.nx σ H)\/(J.go i H/\∃N:St->Hp->Prop,(∀σ' H',N σ' H'->∃m',m'<m/\W (i+1) m' σ' H')/\∀x H',J.yld i H x H'->g x σ H' λσ2 H2=>tb { D with nx:=N,ct:=N,bk:=D.nx } σ2 H2):=by
 refine⟨λi m σ H=>m=n-i/\i<=n/\Pv i σ H,⟨n,by simp,xB7 _,h0⟩,?_⟩;rintro i m σ H ⟨rfl,hi,p⟩;by_cases hlt:i<n
 ·exact .inr ⟨S.go i H hlt (hl i σ H hi p),Pv (i+1),λσ' H' p'=>⟨n-(i+1),by lia,rfl,hlt,p'⟩,λx H' q=>hs i x σ H H' hlt p (S.yld i H x H' hlt (hl i σ H hi p) q)⟩
 ·have e:i=n:=by lia
  subst e;exact .inl ⟨S.stop H (hl _ σ H hi p),hd σ H p⟩
theorem yav{J:It}{n:Nat}{G:Hp->Prop}{y:Nat->V->Hp->Hp->Prop}(S:Seqs J n G y){σc:St}{g:TG}{ti:TT}{te:TE}{H:Hp}{Fn:List V->Hp->Prop}(Pv:Nat->List V->Hp->Prop)(h0:Pv 0 [] H)(hl:∀i acc H,i<=n->Pv i acc H->G H)
  (hz:∀i acc H,i<n->Pv i acc H->acc.length<sizeLine)
  (hs:∀i acc x H H',i<n->Pv i acc H->y i x H H'->g x σc H' λσ2 H2=>ti σ2 H2 λb H3=>if b=true then te σ2 H3 λv H4=>Pv (i+1) (acc++[v]) H4 else Pv (i+1) acc H3)
  (hd:∀acc H,Pv n acc H->Fn acc H) :
  ∃W:zgw,(∃m,W 0 m [] H)/\∀i m acc H,W i m acc H->
   (J.stop i H/\Fn acc H)\/
   (J.go i H/\acc.length<sizeLine/\∃N:List V->Hp->Prop,(∀acc' H',N acc' H'->∃m',m'<m/\W (i+1) m' acc' H')/\∀x H',J.yld i H x H'->g x σc H' λσ2 H2=>ti σ2 H2 λb H3=>if b=true then te σ2 H3 λv H4=>N (acc++[v]) H4 else N acc H3):=by
 refine⟨λi m acc H=>m=n-i/\i<=n/\Pv i acc H,⟨n,by simp,xB7 _,h0⟩,?_⟩;rintro i m acc H ⟨rfl,hi,p⟩;by_cases hlt:i<n
 ·exact .inr ⟨S.go i H hlt (hl i acc H hi p),hz i acc H hlt p,Pv (i+1),λacc' H' p'=>⟨n-(i+1),by lia,rfl,hlt,p'⟩,λx H' q=>hs i acc x H H' hlt p (S.yld i H x H' hlt (hl i acc H hi p) q)⟩
 ·have e:i=n:=by lia
  subst e;exact .inl ⟨S.stop H (hl _ acc H hi p),hd acc H p⟩
end L2
end
section
-- text: ExtF
namespace L2
open PySem PySem.Spec PyProof.Rows
section
variable {X:Cx}
noncomputable def CDv(i j:Int):Prop:=0<j/\j<2^64
theorem CDv.log{i j:Int}(h:CDv i j):j.natAbs.log2<9000:=by
 obtain⟨h1,h2⟩:=h;have h0:j.natAbs≠0:=by lia
 have:j.natAbs<2^64:=by lia
 exact xAz ((Nat.log2_lt h0).mpr this) (by decide)
theorem ycz:OpR X (binaryOp .FloorDiv) (rI CDv λi j=>.int (i/j)):=opI λi j _ _ _ _ _ hc q=>by
 have h1:(0:Int)<j:=hc.1;exact floordiv_int (by lia) (by rw[Int.fdiv_eq_ediv_of_nonneg i (by lia)];exact q) (.inl (PyProof.noPylong_of_log2 hc.log))
noncomputable def CDvB(i j:Int):Prop:=0<j/\j<2^1000
theorem CDvB.log{i j:Int}(h:CDvB i j):j.natAbs.log2<9000:=by
 obtain⟨h1,h2⟩:=h;have h0:j.natAbs≠0:=by lia
 have:j.natAbs<2^1000:=by lia
 exact xAz ((Nat.log2_lt h0).mpr this) (by decide)
theorem yhu:OpR X (binaryOp .FloorDiv) (rI CDvB λi j=>.int (i/j)):=opI λi j _ _ _ _ _ hc q=>by
 have h1:(0:Int)<j:=hc.1;exact floordiv_int (by lia) (by rw[Int.fdiv_eq_ediv_of_nonneg i (by lia)];exact q) (.inl (PyProof.noPylong_of_log2 hc.log))
theorem ycF:OpR X (inplaceOp .FloorDiv) (rI CDv λi j=>.int (i/j)):=opI λi j _ _ _ _ _ hc q=>by
 have h1:(0:Int)<j:=hc.1;exact ifloordiv_int (by lia) (by rw[Int.fdiv_eq_ediv_of_nonneg i (by lia)];exact q) (.inl (PyProof.noPylong_of_log2 hc.log))
theorem zhB:OpR X (binaryOp .Mult) (rI IntMulOk λi j=>.int (i*j)):=opI λ_ _ _ _ _ _ _ hc q=>mul_int q hc
noncomputable def rNeE(K:PySem.W.Frag):R2:=λx y H Q=>∃a b xs,x = .ref a/\y = .ref b/\SqL K H a xs/\SqL K H b []/\Q (.bl (!xs.isEmpty)) H
theorem zgY(hu:X.A.units<cLine):OpR X (compareOp .NotEq) (rNeE X.K):=by
 intro pins s σ H x y v u Q I rx ry h;obtain⟨a,b,xs,rfl,rfl,ha,hb,q⟩:=h;cases rx;cases ry;obtain⟨us,r1,p1,z1⟩:=I.list ha;obtain⟨vs,r2,p2,z2⟩:=I.list hb;cases r2;cases xs with
 |nil=>
  cases r1;exact SeqAt.RcNeAt.lists (e:=λ_=>true) p1.isList p2.isList rfl hu (λj h1 _=>absurd h1 (by simp)) _ _ _ _ ⟨.bl false,H,I,rfl,q⟩
 |cons x xs=>
  cases r1;exact SeqAt.RcNeAt.lists_lengths p1.isList p2.isList (by simp) hu _ _ _ _ ⟨.bl true,H,I,rfl,q⟩
noncomputable def tRev(K:PySem.W.Frag)(te:TE):TE:=λσ H Q=>te σ H λx H1=>∃a xs,x = .ref a/\SqL K H1 a xs/\∀p,H1 p=none->Q (.ref p) (upd H1 p (.lst xs.reverse))
theorem zh0{e:Expr}{te:TE}{p0 p1 p2 pos:Pos}{j}(he:PE X e te):PE X (.Subscript e (.Slice none none (some (.UnaryOp .USub (.Constant (.int 1) j p0) p1)) p2) pos) (tRev X.K te):=by
 intro pins s σ H Q I h;refine Subscript_ (thn (he pins s σ H _ I h) λv s1 ⟨x,H1,I1,r1,q1⟩=>?_);obtain⟨a,xs,rfl,hx,q⟩:=q1;cases r1;refine wpAny_Slice ?_;rw[evalPart_none];refine xA3 ?_;refine xA3 ?_;rw[evalPart_some];refine thn ((zfJ zdW (yac (X:=X))) pins s1 σ H1 (λv H'=>v = .int (-1)/\H'=H1) I1 ⟨1,rfl,rfl,rfl⟩) λst s2 ⟨v,H2,I2,r2,e1,e2⟩=>?_
 subst e1 e2;obtain⟨t,rfl⟩:=r2;have I4:Inv X pins σ H2 { s2 with heap:=s2.heap.push { cls:=.type "slice",data:=.fields #[.none,.none,.int (-1) t] } }:=I2.kept (t':=s2.toks) λb ob q=>xA2 _ q
 obtain⟨its,r,ht,hz⟩:=I4.list hx;have hlen:=r.length;show wpAny (model X.prog X.w) X.A (subscriptTail e _ (.ref a) (.ref s2.heap.objs.size)) (EP X pins σ Q) X.xe { s2 with heap:=s2.heap.push { cls:=.type "slice",data:=.fields #[.none,.none,.int (-1) t] } };refine tail_any (ops:=[.ref a,.ref s2.heap.objs.size]) ht.isList.typeIs slot_list_getitem.lookup ?_ (by with_unfolding_all rfl);refine wpAny_getItem_list_slice ht.isList (Heap.IsSliceOf.new ..) .none .none (.int (-1) t) (by simp) ?_ (by rw[xAa];lia);rw[PySem.W.krv_pick];refine⟨.ref _,_,I4.laid (t':=s2.toks) (o:=.lst xs.reverse) (λb ob q=>xA2 _ q) (xA4 _) ?_,rfl,q _ (I4.hok.fresh (xA4 _))⟩;exact⟨by rw[List.length_reverse];exact hz,its.reverse,0,r.reverse,xA6 _ rfl⟩
theorem yc4:∀ {bs:List Bool} {us:List Value},Vals (bs.map V.bl) us->us=bs.map Value.bool
 | [],_,.nil=>rfl
 |b::bs,_,.cons r t=>by cases r;rw[yc4 t];rfl
theorem zfS(bs:List Bool):(List.range bs.length).all (λi=>bs.getD i true)=bs.all id:=by
 induction bs with
 |nil=>rfl
 |cons b bs ih=>
  rw[xAO,List.range_succ_eq_map,List.all_cons,List.all_cons,List.all_map];show((b::bs).getD 0 true&&_)=_;rw[List.getD_cons_zero];congr 1
noncomputable def zim(K:PySem.W.Frag)(f:List Bool->Bool):List V->Hp->VK->Prop:=λxs H Q=>∃a bs,xs=[.ref a]/\SqL K H a (bs.map V.bl)/\Q (.bl (f bs)) H
theorem yet{P:Program}{w:World}{A:Around}{bs:List Bool}:TruthOf P w A (λi v=>(bs.map Value.bool).toArray[i]?=some v) (λi=>bs.getD i true):=by
 intro i v s Q E hv q;have hv':bs[i]?.map Value.bool=some v:=by simpa using hv
 cases e:bs[i]? with
 |none=>rw[e]at hv';cases hv'
 |some b=>
  rw[e]at hv';cases hv';have e2:bs.getD i true=b:=by simp[List.getD,e]
  have q':Q (bs.getD i true) s:=q;rw[e2]at q';exact wpAny_truthy_bool q'
theorem ygE(hc:X.calm=true):zbR X (.builtin "all") (zim X.K λbs=>bs.all id):=by
 intro pins s σ H xs us Q I r h;obtain⟨a,bs,rfl,ha,q⟩:=h;obtain⟨u,rfl,rx⟩:=ycg r;cases rx;obtain⟨its,r1,p1,z1⟩:=I.list ha;have e:=yc4 r1;subst e;refine call_all_walk (wpAny_pyIter_list p1.isList ?_);have hh:X.A.in1.handled=none:=I.ok.hd hc;have ne:a≠s.heap.objs.size:=λz=>by obtain⟨o,n,e,_⟩:=p1;have l:s.heap.objs.size>=Nat.succ a:=xAd e;have z':@Eq Nat a s.heap.objs.size:=z;lia
 refine⟨_,_,_,_,_,_,_,rfl,Walks.list hh s.heap.objs.size a ne _,⟨⟨_,xA6 _ rfl,rfl,rfl⟩,p1.isList.push _⟩,yet,λh' tk k=>?_⟩;have I1:Inv X pins σ H { s with heap:=h',toks:=tk }:=I.kept λb o e=>k b o (by simp only[xAA];exact xAF (xAd e)) (xA2 _ e)
 refine⟨.bl _,H,I1,?_,q⟩;show Value.bool _=Value.bool _;congr 1;have:=zfS bs
 simpa using this
noncomputable def Itd(hi:Int)(n:Nat):It:=⟨λi _=>i<n,λi H x H'=>H'=H/\x = .int (hi-i),λi _=>n<=i⟩
theorem ydX{P:Program}{w:World}{K:PySem.W.Frag}{tg:Expr}(it:Addr)(hi:Int)(n:Nat):Turn P w K tg (Itd hi n) [it] it (λi h=>IsRangeIter h it (hi+(i:Nat)*(-1)) ((n:Int)-(i:Nat)) (-1)) where
 mem:=by simp
 obj:=λi h st b hb=>by
  have e:b=it:=by simpa using hb
  subst e;exact⟨_,st,λv z=>by have z':Data.fields _=Data.cell v:=z;cases z'⟩
 keep:=λi h h' st k=>k it (by simp) _ st
 item:=by
  intro X hP hw hK hc i pins s σ H E I hf st hg;subst hP hw hK;obtain⟨f0,f1,f2,f3,f4,f5⟩:=hf it (by simp);have W:=Walks.range (prog:=X.prog) (w:=X.w) (I.ok.hd hc) it hi (-1) n;refine W.item i s _ _ hg st λv h' tk hv st' kk=>?_
  obtain⟨t,rfl⟩:=hv;have I1:Inv X pins σ H { s with heap:=h',toks:=tk }:=I.turned (λb o hb e=>kk b o (by simpa using hb) e) f0 f1 f3 f4 f5;refine⟨_,rfl,zgs (s:={ s with heap:=h',toks:=tk }) (n:="range_iterator") st' rfl rfl (by decide) ⟨.int (hi-i),H,I1,⟨t,?_⟩,⟨rfl,rfl⟩,st',λb hb=>(hf b hb).1⟩⟩;congr 1;lia
 done:=by
  intro X hP hw hK hc i pins s σ H E I hf st hg;subst hP hw hK;obtain⟨f0,f1,f2,f3,f4,f5⟩:=hf it (by simp);exact wpAny_pyNext_range_end (I.ok.hd hc) st (by have:n<=i:=hg;lia) λh' eb=>⟨rfl,I.turned (t':=s.toks) (λb o hb e=>eb b o hb e) f0 f1 f3 f4 f5⟩
 self:=λ_ _ _ _ _ st h=>wpAny_pyIter_rangeiter st h
theorem zea{hi:Int}{n:Nat}:Seqs (Itd hi n) n (λ_=>True) (λi x H H'=>H'=H/\x = .int (hi-i)) :=
 ⟨λi H hi _=>hi,λH _=>xA4 _,λi H x H' hi _ q=>q⟩
noncomputable def yim(ta:TA):TI:=λσ H R=>ta σ H λvs H1=>∃i j:Int,vs=[.int i,.int j,.int (-1)]/\(-(2^62)<=i/\i<2^62/\-(2^62)<=j/\j<2^62)/\R (Itd i (i-j).toNat) H1
theorem yhH{a b c:Expr}{ta:TA}{tg:Expr}{p pos:Pos}(hg:Gl X "range")(hm:X.mg "range"=none)(ha:PA X [a,b,c] ta)(hs:starEach [a,b,c] X.env=(false,eval a X.env)::starEach [b,c] X.env:=by rfl)(hs2:(backTo pos (starEach [b,c] X.env)).any (·.1)=false:=by rfl) :
  PI X tg (.Call (.Name "range" p) [a,b,c] [] pos) (yim ta):=by
 intro pins s σ H R I h;refine Call_ (ybF I hg hm boot_range (xAY (thn (ha pos pins s σ H _ I h) λus s1 ⟨vs,H1,I1,r1,q1⟩=>?_) hs hs2));obtain⟨i,j,e,⟨b1,b2,b3,b4⟩,q⟩:=q1;subst e;cases r1 with
 |cons r rr=>
  cases rr with
  |cons r' rr=>
   cases rr with
   |cons r'' rr=>
    cases rr;obtain⟨t,rfl⟩:=r;obtain⟨t',rfl⟩:=r';obtain⟨t'',rfl⟩:=r'';refine call_range_3 (by decide) ?_ (.inl (PyProof.noPylong_small (by decide)));refine wpAny_pyIter_range (IsRange.new ..) (PySem.W.small_down b1 b2 b3 b4) ?_;generalize hG:s1.heap.push { cls:=.type "range",data:=.fields #[.int i t,.int j t',.int (-1) t''] }=G;have I2:Inv X pins σ H1 { s1 with heap:=G }:=I1.kept (t':=s1.toks) λb o e=>hG ▸ xA2 _ e
    refine⟨G.objs.size,[G.objs.size],_,_,H1,rfl,I2.kept (t':=s1.toks) λb o e=>xA2 _ e,ydX _ i (i-j).toNat,?_,λb hb=>?_,q⟩
    ·have e1:i+((0:Nat):Int)*(-1)=i:=by simp
     have e2:(((i-j).toNat:Nat):Int)-((0:Nat):Int)=Builtin.Range.rangeSize i j (-1):=by rw[PySem.W.rangeSize_downNat];simp
     show IsRangeIter _ _ (i+((0:Nat):Int)*(-1)) ((((i-j).toNat:Nat):Int)-((0:Nat):Int)) (-1);rw[e1,e2];exact xA6 _ rfl
    ·have e:b=G.objs.size:=by simpa using hb
     subst e;exact I2.fpOk (xA4 _) (I2.hok.fresh (xA4 _))
noncomputable def tRng(ta:TA):TE:=λσ H Q=>ta σ H λvs H1=>∃j:Int,vs=[.int j]/\∀p,H1 p=none->Q (.ref p) (upd H1 p (.rng 0 j))
theorem zcG{a:Expr}{ta:TA}{p pos:Pos}(hg:Gl X "range")(hm:X.mg "range"=none)(ha:PA X [a] ta)(hs:starEach [a] X.env=[(false,eval a X.env)]:=by rfl):PE X (.Call (.Name "range" p) [a] [] pos) (tRng ta):=by
 intro pins s σ H Q I h;refine Call_ (ybF I hg hm boot_range (xAY (thn (ha pos pins s σ H _ I h) λus s1 ⟨vs,H1,I1,r1,q1⟩=>?_) hs rfl));obtain⟨j,e,q⟩:=q1;subst e;cases r1 with
 |cons r rr=>
  cases rr;obtain⟨t,rfl⟩:=r;exact call_range_1 ⟨.ref _,_,I1.laid (o:=.rng 0 j) (λb o e=>xA2 _ e) (xA4 _) ⟨_,_,_,xA6 _ rfl⟩,rfl,q _ I1.fresh⟩
noncomputable def intsFrom(lo:Int)(n:Nat):List V:=(List.range n).map λ(i:Nat)=>V.int (lo+(i:Int))
theorem zcY:∀ {xs:List V} {us:List Value},xs.length=us.length->(∀(i:Nat) x u,xs[i]?=some x->us[i]?=some u->RelV x u)->Vals xs us
 | [],[],_,_=>.nil
 | [],_::_,h,_=>by simp at h
 |_::_,[],h,_=>by simp at h
 |x::xs,u::us,h,g=>.cons (g 0 x u rfl rfl) (zcY (by simpa using h) λi y v e1 e2=>g (i+1) y v (by simpa using e1) (by simpa using e2))
theorem yeb{lo:Int}{n:Nat}{acc:Array Value}(h:ItemsOf (λi v=>∃t,v = .int (lo+i*1) t) acc n):Vals (intsFrom lo n) acc.toList:=by
 refine zcY (by simp[intsFrom,h.1]) λi x u e1 e2=>?_
 obtain⟨t,rfl⟩:=h.2 i u (by simpa using e2);have:x=V.int (lo+i):=by
  unfold intsFrom at e1;rw[xA8]at e1;cases hr:(List.range n)[i]? with
  |none=>rw[hr]at e1;cases e1
  |some j=>
   rw[hr]at e1;have:j=i:=by
    obtain⟨h1,h2⟩:=xAk.mp hr
    simpa using h2.symm
   subst this;exact(xAv e1).symm
 subst this;exact⟨t,by simp⟩
theorem zb9(hc:X.calm=true):zbR X (.type "list") (λxs H Q=>∃p lo hi,xs=[.ref p]/\H p=some (.rng lo hi)/\(-(2^62)<=lo/\lo<2^62/\-(2^62)<=hi/\hi<2^62)/\(hi-lo).toNat<=sizeLine/\∀l,H l=none->Q (.ref l) (upd H l (.lst (intsFrom lo (hi-lo).toNat)))):=by
 intro pins s σ H xs us Q I r h;obtain⟨p,lo,hi,rfl,hp,⟨b1,b2,b3,b4⟩,hz,q⟩:=h;obtain⟨u,rfl,rx⟩:=ycg r;cases rx;obtain⟨t,u,v,e⟩:=I.hok p _ hp;refine call_list_range (n:=(hi-lo).toNat) (I.ok.hd hc) e (small_one b1 b2 b3 b4) (by rw[rangeSize_one];split <;> lia) (by have:=sizeLine_eq;lia) λh' tk acc c k ho hi'=>?_
 have rv:=yeb hi';refine⟨.ref _,_,I.laid (t':=tk) k (xA4 _) (show yba X.prog X.w _ h' _ (.lst (intsFrom lo (hi-lo).toNat)) from⟨?_,acc.toList,c,rv,by simpa using ho⟩),rfl,q _ I.fresh⟩
 simpa[intsFrom]using hz
noncomputable def Has(P:Program)(w:World)(K:PySem.W.Frag)(mg:Str->Option Value)(base:Heap)(n:Nat)(x:Str)(ps:List Str)(sp:Sp):Prop :=
 ∃f fd,FnOk P w K mg base CX0 n f fd ps sp/\ye8 K fd ps []/\PySem.W.keepIn K (.ref f)=true/\mg x=some (.ref f)
theorem zad{n k:Nat}{x:Str}{ps:List Str}{sp:Sp}{e:Expr}{es:List Expr}{t:TA}{p pos:Pos}(h:Has X.prog X.w X.K X.mg X.base n x ps sp)(hr:Room k X.A)(hle:n<=k)(hg:Gl X x)(ha:PA X (e::es) t)
  (hdb:(x==("__debug__":Str))=false:=by decide) (he:starEach (e::es) X.env=(false,eval e X.env)::starEach es X.env:=by rfl) (hpl:(backTo pos (starEach es X.env)).any (·.1)=false:=by rfl) :
  PE X (.Call (.Name x p) (e::es) [] pos) (zhb sp [] E0 t):=by
 obtain⟨f,fd,F,B,kp,m⟩:=h;exact yhp F (hr.mono hle) hg m kp B .nil zih ha hdb he hpl
theorem zaL{c:TT}{tb:TS}{D:Ends}{σ:St}{H:Hp}(Pv:St->Hp->Prop)(μ:St->Hp->Nat)(h0:Pv σ H)
  (hs:∀σ H,Pv σ H->c σ H λb H1=>if b=true then ∃N:St->Hp->Prop,(∀σ' H',N σ' H'->∃m',m' < μ σ H/\m'=μ σ' H'/\Pv σ' H')/\tb { D with nx:=N,ct:=N,bk:=D.nx } σ H1 else D.nx σ H1):zg5 c tb D σ H:=by
 refine⟨λm σ H=>m=μ σ H/\Pv σ H,⟨_,rfl,h0⟩,?_⟩;rintro m σ H ⟨rfl,p⟩;exact hs σ H p
end
end L2
end
section
-- text: ExtG
namespace L2
open PySem PySem.Spec PyProof.Rows
section
variable {X:Cx}
theorem za0:bootBuiltins "list"=some (.type "list"):=by decide +kernel
theorem zaq:bootBuiltins "tuple"=some (.type "tuple"):=by decide +kernel
theorem ybW:bootBuiltins "int"=some (.type "int"):=by decide +kernel
theorem ycD:bootBuiltins "abs"=some (.builtin "abs"):=by decide +kernel
theorem yeq:bootBuiltins "min"=some (.builtin "min"):=by decide +kernel
theorem ycC:bootBuiltins "max"=some (.builtin "max"):=by decide +kernel
theorem yeP(i:Int)(t:Tok):RelV (.int i) (.int i t):=⟨t,rfl⟩
theorem zep{es:List Expr}{k:Nat}{t:TGs}{n:Nat}{pos:Pos}{K:PySem.W.Frag}(hK:X.K=K)(hc:X.calm=true)(h:PGs X es t)
  (hn:(assignEach es X.env).length=n:=by rfl) (hst:(assignEach es X.env).findIdx? (·.1)=none:=by rfl):PG X (.Tuple es k pos) (gTup K n t):=hK ▸ za2 hc h hn hst
end
end L2
end
section
-- text: ExtH
namespace L2
open PySem PySem.Spec PyProof.Rows
theorem yfL{prog:Program}{w:World}{A:Around}{E:Value->Shared->Prop}{s:Shared}{a:Addr}{xs:Array Value}{k:Nat}{sl:Array (Option Value)}{u:Tok}{Q:Value->Shared->Prop}
  (hx:s.heap.get? a=some { cls:=.type "list",dict:=none,data:=.seq xs k,slots:=sl }) (hA:A.handled=none)
  (h:∀h' tk e,Heap.NewExcOf s.heap h' e "AttributeError"->E (.ref e) { s with heap:=h',toks:=tk }) :
  wpAny (model prog w) A (getAttrBy (.ref a) (.str "keys" u) false) Q E s:=by
 have hmiss:typeLookup (.type "list") "keys"=pure none:=by rw[typeLookup_type,builtinLookup_eq_fast];kernel_rfl
 obtain⟨hp,g,d,tk,os⟩:=s;have hT:∀tk',(⟨hp,g,d,tk',os⟩:Shared).TypeIs (.ref a) "list":=λ_=>⟨_,hx,rfl⟩
 have f1:=sub_AttributeError;have f3:=F.slot_list_getattribute.lookup;have f4:=F.slot_list_getattribute.bind (.ref a);have f5:=am_list_getattr_none;unfold getAttrBy
 repeat (any_goals (first|assumption|exact hT _|((with_reducible show wpAny _ _ (call (Value.builtin "list.__getattribute__") _ _) _ _ _);refine call_meets F.slot_list_getattribute (hT _) am_entry_list_getattribute (F.args_list_getattribute_2 _ _) (meets_getattribute_miss_list a xs k sl "keys" _ hmiss (by decide +kernel)) ⟨hx,hA,λh' tk' e hx'=>?_⟩)|wp_step))
 obtain⟨t',u',he⟩:=hx'.there;show wpAny _ _ (getattributeRaised _ _ _ _ _ _ _) _ _ _;unfold getattributeRaised
 repeat (any_goals (first|assumption|wp_step))
 exact h _ _ _ hx'.of
theorem zfz{prog:Program}{w:World}{A:Around}{E:Value->Shared->Prop}{s:Shared}{a:Addr}{xs:Array Value}{k:Nat}{sl:Array (Option Value)}{Q:Option Value->Shared->Prop}
  (hx:s.heap.get? a=some { cls:=.type "list",dict:=none,data:=.seq xs k,slots:=sl }) (hA:A.handled=none)
  (h:∀h' tk,(∀b o,s.heap.get? b=some o->h'.get? b=some o)->Q none { s with heap:=h',toks:=tk }) :
  wpAny (model prog w) A (getAttr? (.ref a) "keys") Q E s:=by
 have f1:=sub_AttributeError;unfold getAttr? getAttrBy?;refine xA1 (wpAny_mkText ?_);refine xA1 ?_;refine wpAny_attempt ?_;refine yfL (by exact hx) hA λh' tk e ne=>?_
 obtain⟨oe,_,he,hc,_⟩:=ne.there;show wpAny _ _ (isInstance (.ref e) (.type "AttributeError") >>= _) _ _ _;refine xA1 (wpAny_isInstance ⟨_,he,hc⟩ f1 ?_);exact xA3 (h _ _ ne.keeps)
theorem zbH:entryFor table "dict.update.loop"=some Builtin.«dict.update.loop»:=entryFor_of_fast (by kernel_rfl)
theorem yaR:plainId "dict.update.loop"=true:=by decide +kernel
section
variable {prog:Program} {w:World} {K:Type} [DecidableEq K] {knd:KeyKind prog w K} {A:Around} {R:Result->Shared->Prop} {I ax d:Addr}
theorem zfU(hh:A.in1.handled=none)(items:Array Value)(more:List (K×Value))(hne:ax≠I)(hdI:d≠I)(hda:d≠ax)(hsz:items.size<=sizeLine)(hml:more.length=items.size)
  (tp:Nat->Addr) (hit:∀j,j<items.size->items[j]?=some (.ref (tp j))) (htd:∀j,j<items.size->tp j≠d/\tp j≠I) :
  ∀(k i:Nat) (s:Shared) (t:Tok) (kvs:List (K×Value)),items.size-i=k->i<=items.size->s.heap.IsListIter I ax i/\s.heap.IsList ax items->s.heap.DictOf knd d kvs->kvs.length<=i->
  (∀j kv,more[j]?=some kv->∃key,knd.is kv.1 key=true/\s.heap.IsTuple (tp j) #[key,kv.2])->
  (∀s',s'.heap.DictOf knd d (merged kvs (more.drop i))->(∀b o,b≠I->b≠d->s.heap.get? b=some o->s'.heap.get? b=some o)->(∃h' tk,s'={ s with heap:=h',toks:=tk })->R (.ok (.ret .none)) s')->
  codeAny (model prog w) A (.builtin "dict.update.loop" ⟨[.ref d,.ref I,.int (i:Int) t,.none],[]⟩) R s:=by
 have W:=Walks.list (prog:=prog) (w:=w) hh I ax hne items;intro k
 induction k with
 |zero=>
  intro i s t kvs hk hi hst hd hkl hpairs hR;have hin:i=items.size:=by lia
  subst hin;refine codeAny_builtin zbH ?_;rw[xBr yaR _];show wpAny _ A.in1 (pyNext (.ref I) >>= _) _ _ s;refine xA1 (W.done s _ _ hst λh' tk hk'=>?_);have hm:more.drop items.size=[]:=List.drop_of_length_le (by lia);rw[hm]at hR;have hd':h'.DictOf knd d kvs:=hd.at λo e=>hk' d o (by simp[hdI]) e
  refine xA3 (hR { s with heap:=h',toks:=tk } hd' (λb o h1 h2 e=>hk' b o (by simp[h1]) e) ⟨_,_,rfl⟩)
 |succ k ih=>
  intro i s t kvs hk hi hst hd hkl hpairs hR;have hlt:i<items.size:=by lia
  refine codeAny_builtin zbH ?_;rw[xBr yaR _];show wpAny _ A.in1 (pyNext (.ref I) >>= _) _ _ s;refine xA1 (W.item i s _ _ hlt hst λv h' tk hP hst' hk'=>?_);rw[hit i hlt]at hP;cases hP;obtain⟨kv,hkv⟩:∃kv,more[i]?=some kv:=⟨more[i]'(by lia),xA5 (by lia)⟩
  obtain⟨key,hkey,htup⟩:=hpairs i kv hkv;have htup':h'.IsTuple (tp i) #[key,kv.2]:=htup.at λo e=>hk' _ o (by simp[(htd i hlt).2]) e
  obtain⟨ot,hot,hoc,nn,hod⟩:=id htup';have hd':h'.DictOf knd d kvs:=hd.at λo e=>hk' d o (by simp[hdI]) e
  refine xA1 (xBf ?_);refine xA1 (wpAny_tryCatch ?_);unfold Builtin.Dict.pairItems;refine xA1 (wpAny_typeOf ⟨_,hot,hoc⟩ ?_);rw[if_pos (by decide)];refine xA1 (wpAny_seqItems hot hod ?_);refine xA3 ?_;show wpAny _ A.in1 (holding [key,kv.2] (dictSet d key kv.2)) _ _ _;refine xBf (wpAny_dictSet_pairs (hsz:=by lia) hkey hd' λh2 hd2 hs2=>?_);have step:more.drop i=kv::more.drop (i+1):=by
   rw[List.drop_eq_getElem_cons (by lia)];congr 1;exact xAv ((xA5 (by lia)).symm.trans hkv)
  refine xA3 ⟨plainId_quiet yaR _,ih (i+1) _ _ (stored kvs kv.1 kv.2) (by lia) hlt ?_ hd2 ?_ (λj kv' hj=>?_) λs' h1 h2' h3=>hR s' ?_ (λb o n1 n2 e=>h2' b o n1 n2 (hs2.extBut b o n2 (hk' b o (by simp[n1]) e))) ?_⟩
  ·exact W.frame _ _ _ hst' λb hb o e=>hs2.extBut b o (by simp only[xA9,xAn,xB0]at hb;rcases hb with rfl|rfl;exact Ne.symm hdI;exact Ne.symm hda) e
  ·have:=stored_length_le kvs kv.1 kv.2;lia
  ·obtain⟨key',a1,a2⟩:=hpairs j kv' hj;have hj':j<items.size:=by rw[<-hml];exact(xAk.mp hj).1
   exact⟨key',a1,(a2.at λo e=>hk' _ o (by simp[(htd j hj').2]) e).at λo e=>hs2.extBut _ o (htd j hj').1 e⟩
  ·rw[step];exact h1
  ·obtain⟨h4,tk4,rfl⟩:=h3;exact⟨_,_,rfl⟩
end
section
variable {X:Cx}
theorem Vals.getR:∀ {xs:List V} {us:List Value},Vals xs us->∀(j:Nat) x u,xs[j]?=some x->us[j]?=some u->RelV x u
 |_,_,.nil,j,x,u,e,_=>by simp at e
 |_::_,_::_,.cons r t,0,x,u,e1,e2=>by simp at e1 e2;subst e1 e2;exact r
 |_::_,_::_,.cons r t,j+1,x,u,e1,e2=>Vals.getR t j x u (by simpa using e1) (by simpa using e2)
noncomputable def yht:List V->Hp->VK->Prop:=λxs H Q=>∃(a:Addr) (ts:List Addr) (kvs:List (Key×V)),xs=[.ref a]/\H a=some (.lst (ts.map V.ref))/\ts.length=kvs.length/\kvs.length<=sizeLine/\
 (∀(j:Nat) t kv,ts[j]?=some t->kvs[j]?=some kv->H t=some (.tup [kV kv.1,kv.2]))/\(kvs.map (·.1)).Nodup/\∀D,H D=none->Q (.ref D) (upd H D (.dK kvs))
theorem zc7{P:Program}{w:World}{pins:List (Addr×Obj)}{σ:St}{H:Hp}{s:Shared}(I:Inv X pins σ H s):∀(ts:List Addr) (kvs:List (Key×V)),ts.length=kvs.length->(∀(j:Nat) t kv,ts[j]?=some t->kvs[j]?=some kv->H t=some (.tup [kV kv.1,kv.2]))->
  ∃vs:List (Key×Value),KV kvs vs/\vs.length=ts.length/\∀(j:Nat) kv t,vs[j]?=some kv->ts[j]?=some t->∃key,(yaH P w).is kv.1 key=true/\s.heap.IsTuple t #[key,kv.2]
 | [],[],_,_=>⟨[],.nil,rfl,λj kv t e=>by simp at e⟩
 | [],_::_,h,_=>by simp at h
 |_::_,[],h,_=>by simp at h
 |t::ts,kv::kvs,h,hp=>by
  obtain⟨vs,h1,h2,h3⟩:=zc7 I ts kvs (by simpa using h) λj t' kv' e1 e2=>hp (j+1) t' kv' (by simpa using e1) (by simpa using e2)
  obtain⟨its,r,p,_⟩:=I.tuple (SqT.of (hp 0 t kv rfl rfl));cases r with
  |cons ra rr=>
   cases rr with
   |cons rb rz=>
    cases rz;rename_i ka va;refine⟨(kv.1,va)::vs,.cons ⟨rfl,rb⟩ h1,by simp[h2],λj kv' t' e1 e2=>?_⟩;cases j with
    |zero=>
     simp at e1 e2;subst e1 e2;exact⟨ka,ygN ra,p⟩
    |succ j=>exact h3 j kv' t' (by simpa using e1) (by simpa using e2)
theorem ycS(hc:X.calm=true):zbR X (.type "dict") yht:=by
 intro pins s σ H xs us Q I r h;obtain⟨a,ts,kvs,rfl,ha,hl,hsz,hp,hn,q⟩:=h;obtain⟨u,rfl,rx⟩:=ycg r;cases rx;obtain⟨its,r1,p1,z1⟩:=I.list (SqL.of ha);refine callType_codes (Q₁:=λobj s₁=>obj = .ref s.heap.objs.size/\s₁={ s with heap:=s.heap.push { cls:=.type "dict",data:=.dict #[] } }) F.kt_called_dict (F.kt_typeCall_dict_1 _) F.entry_dict_init (kt_code_dict_new _ ⟨rfl,rfl⟩) ?_;rintro obj s₁ ⟨rfl,rfl⟩;have hnew:(s.heap.push { cls:=.type "dict",data:=.dict #[] }).DictOf (yaH X.prog X.w) s.heap.objs.size []:=Heap.DictOf.new s.heap;refine⟨hnew.typeIs,F.args_dict_init_2 _ _,?_⟩;unfold Builtin.«dict.__init__»;refine xA1 ?_;unfold Builtin.Dict.selfAndRest;refine xA1 (wpAny_notOrdered_dict hnew.typeIs ?_);show wpAny _ _ (pure (s.heap.objs.size,[Value.ref a])) _ _ _;refine xA3 ?_;show wpAny _ _ (Builtin.Dict.updateFrom "dict.__init__" s.heap.objs.size (.ref a) [] .none) _ _ _;unfold Builtin.Dict.updateFrom;have hne:∀b o,s.heap.get? b=some o->b≠s.heap.objs.size:=λb o e z=>by have l:s.heap.objs.size>=Nat.succ b:=xAd e;have z':@Eq Nat b s.heap.objs.size:=z;lia
 obtain⟨vs,hKV,hvl,hvs⟩:=zc7 (P:=X.prog) (w:=X.w) I ts kvs hl hp;have hA:X.A.in1.in1.handled=none:=I.ok.hd hc;obtain⟨⟨ca,da,dta,sla⟩,na,hoa,hca,hda,hdt⟩:=id p1;dsimp only at hca hda hdt;subst hca hda hdt;have e1:(s.heap.push { cls:=.type "dict",data:=.dict #[] }).get? a=some { cls:=.type "list",dict:=none,data:=.seq its.toArray na,slots:=sla }:=xA2 _ hoa;refine xA1 (wpAny_typeOf ⟨_,e1,rfl⟩ ?_);dsimp only;rw[if_pos (by decide)];refine xA1 (zfz e1 hA λh1 tk1 hk1=>?_);rw[if_pos (show(none:Option Value).isNone=true from rfl)];refine xA1 (xB9 ?_);have e2:h1.IsList a its.toArray:=⟨_,hk1 _ _ e1,rfl,na,rfl⟩
 refine xA1 (wpAny_pyIter_list e2 ?_);have hN:s.heap.objs.size<h1.objs.size:=xAd (hk1 _ _ (xA6 _ rfl));have hI:∀b o,h1.get? b=some o->b≠h1.objs.size:=λb o e z=>by have l:h1.objs.size>=Nat.succ b:=xAd e;have z':@Eq Nat b h1.objs.size:=z;lia
 have kp:∀b o,s.heap.get? b=some o->(h1.push { cls:=.type "list_iterator",data:=.fields #[.ref a,.int 0 0] }).get? b=some o:=λb o e=>xA2 _ (hk1 _ _ (xA2 _ e))
 have hr1:=r1.length;have hlen:its.toArray.size=ts.length:=by rw[xAa,<-hr1,xA0]
 have hti:∀j,j<its.toArray.size->its.toArray[j]?=some (.ref (ts.getD j 0)):=by
  intro j hj;rw[hlen]at hj;have hj2:j<its.length:=by rw[<-hr1,xA0];exact hj
  rw[List.getElem?_toArray,xA5 hj2];have g:=Vals.getR r1 j (.ref (ts.getD j 0)) its[j] (by rw[xA8,xA5 hj];simp[List.getD,hj]) (xA5 hj2);exact congrArg some g
 have htu:∀j,j<its.toArray.size->∃o,s.heap.get? (ts.getD j 0)=some o:=by
  intro j hj;rw[hlen]at hj;have hj2:j<vs.length:=by rw[hvl];exact hj
  obtain⟨key,_,o,ho,_⟩:=hvs j vs[j] (ts.getD j 0) (xA5 hj2) (by simp[List.getD,hj]);exact⟨o,ho⟩
 refine xA3 ⟨plainId_quiet yaR _,?_⟩;refine zfU (knd:=yaH X.prog X.w) (A:=X.A.in1) (I:=h1.objs.size) (ax:=a) (d:=s.heap.objs.size) hA its.toArray vs (hI _ _ (hk1 _ _ e1)) (xAF hN) (Ne.symm (hne _ _ hoa)) (by rw[hlen,hl];exact hsz) (by rw[hvl,hlen]) (λj=>ts.getD j 0) hti
  (λj hj=>by obtain⟨o,ho⟩:=htu j hj;exact⟨hne _ _ ho,hI _ _ (hk1 _ _ (xA2 _ ho))⟩) _ 0 _ _ [] rfl (xB7 _) ⟨⟨_,xA6 _ rfl,rfl,rfl⟩,e2.push _⟩ ?_ (xA4 _) ?_ ?_
 ·exact(hnew.at λo e=>hk1 _ _ e).push _
 ·intro j kv hj;have hj2:j<ts.length:=by rw[<-hvl];exact(xAk.mp hj).1
  obtain⟨key,k1,k2⟩:=hvs j kv (ts.getD j 0) hj (by simp[List.getD,hj2]);exact⟨key,k1,k2.at λo e=>kp _ _ e⟩
 ·rintro s' hd hk ⟨h',tk,rfl⟩;have hkeys:vs.map (·.1)=kvs.map (·.1):=(KV.keys hKV).symm;rw[List.drop_zero,merged_nil_of_nodup vs (by rw[hkeys];exact hn)]at hd;refine⟨rfl,.ref s.heap.objs.size,_,I.laid (a:=s.heap.objs.size) (o:=.dK kvs) (t':=tk) (h':=h') (λb o e=>hk b o (hI _ _ (hk1 _ _ (xA2 _ e))) (hne _ _ e) (kp _ _ e)) (xA4 _) ⟨hsz,beq_eq_false_iff_ne.mpr (Ne.symm (xAF I.big)),vs,hKV,hd⟩,rfl,q _ (I.hok.fresh (xA4 _))⟩
end
end L2
end
section
-- text: ExtI
namespace L2
open PySem PySem.Spec PyProof.Rows
section
variable {X:Cx}
theorem yfJ{A:Around}{s:Shared}:∀ {xs:List Int} {us:List Value},Vals (xs.map V.int) us->∀ {ys:List Int} {vs:List Value},Vals (ys.map V.int) vs->∀j (h1:j<us.toArray.size) (h2:j<vs.toArray.size),SeqAt.EqAt A s us.toArray[j] vs.toArray[j] (xs.getD j 0==ys.getD j 0):=by
 intro xs us r1 ys vs r2 j h1 h2;have l1:=r1.length;have l2:=r2.length;rw[xA0]at l1 l2;rw[xAa]at h1 h2;have g1:=Vals.getR r1 j (.int (xs.getD j 0)) us[j] (by rw[xA8,xA5 (by lia)];simp[List.getD,show j<xs.length by lia]) (xA5 h1);have g2:=Vals.getR r2 j (.int (ys.getD j 0)) vs[j] (by rw[xA8,xA5 (by lia)];simp[List.getD,show j<ys.length by lia]) (xA5 h2);obtain⟨t1,e1⟩:=g1;obtain⟨t2,e2⟩:=g2;rw[List.getElem_toArray,List.getElem_toArray,e1,e2];exact SeqAt.EqAt.int_int _ t1 _ t2
theorem yfQ{xs ys:List Int}:((List.range (min xs.length ys.length)).all (λj=>xs.getD j 0==ys.getD j 0)&&xs.length==ys.length)=decide (xs=ys):=by
 rw[Bool.eq_iff_iff,xAx,xB4,decide_eq_true_iff,beq_iff_eq];constructor
 ·rintro⟨h1,h2⟩;refine xAP h2 λj a b=>?_
  have:=h1 j (xAw.mpr (by lia))
  simpa[List.getD,a,b]using this
 ·rintro rfl;exact⟨λj _=>by simp,rfl⟩
noncomputable def rEqT(K:PySem.W.Frag)(neg:Bool):R2:=λx y H Q=>∃(a b:Addr) (xs ys:List Int),x = .ref a/\y = .ref b/\SqT K H a (xs.map V.int)/\SqT K H b (ys.map V.int)/\Q (.bl (if neg then !decide (xs=ys) else decide (xs=ys))) H
theorem zh1(hu:X.A.units<cLine):OpR X (compareOp .Eq) (rEqT X.K false):=by
 intro pins s σ H x y v u Q I rx ry h;obtain⟨a,b,xs,ys,rfl,rfl,ha,hb,q⟩:=h;cases rx;cases ry;obtain⟨us,r1,p1,z1⟩:=I.tuple ha;obtain⟨vs,r2,p2,z2⟩:=I.tuple hb;refine SeqAt.eq_tupleAt p1 p2 hu (yfJ r1 r2) ?_;have l1:=r1.length;have l2:=r2.length;rw[xA0]at l1 l2;rw[xAa,xAa,<-l1,<-l2,yfQ];exact⟨.bl _,H,I,rfl,q⟩
end
end L2
end
section
-- text: ExtJ
namespace L2
open PySem PySem.Spec PyProof.Rows
section
variable {X:Cx} {pos:Pos}
noncomputable def yin(i j k:Nat)(ta:TA):TS:=λD σ H=>ta σ H λvs H1=>∃u v w,vs=[u,v,w]/\D.nx (((σ.set i (some u)).set j (some v)).set k (some w)) H1
theorem yey{i j k:Nat}{x y z:Str}{a b c:Expr}{ta:TA}{px py pz pt:Pos}{kt k2 pt2}(hc:X.calm=true)(hN:X.N.Nodup)(hi:X.N[i]?=some x)(hj:X.N[j]?=some y)(hk:X.N[k]?=some z)(hij:i≠j/\i≠k/\j≠k)
  (hx:X.env.scope.names.lookup x=some .local) (hy:X.env.scope.names.lookup y=some .local) (hz:X.env.scope.names.lookup z=some .local) (ha:PA X [a,b,c] ta)
  (hw:swappedStores [.Tuple [.Name x px,.Name y py,.Name z pz] kt pt] (.Tuple [a,b,c] k2 pt2) X.env=pure (some [x,y,z]))
  (hs:swapsWithSole [.Tuple [.Name x px,.Name y py,.Name z pz] kt pt] (.Tuple [a,b,c] k2 pt2) pos.line X.env=pure false:=by rfl) :
  PS X (.Assign [.Tuple [.Name x px,.Name y py,.Name z pz] kt pt] (.Tuple [a,b,c] k2 pt2) pos) (yin i j k ta):=by
 intro pins s σ H D I h;rw[exec_Assign_arm];refine xA1 (wpAny_standAt ?_);rw[hs];refine xA1 (xA3 ?_);rw[if_neg (by decide)];refine xA1 (Tuple_ (thn (ha _ pins s σ H _ I h) λus s1 ⟨vs,H1,I1,r1,q1⟩=>?_));obtain⟨v1,v2,v3,e1,q1⟩:=q1;subst e1;obtain⟨u1,u2,u3,rfl,r1',r2',r3'⟩:∃u1 u2 u3,us=[u1,u2,u3]/\RelV v1 u1/\RelV v2 u2/\RelV v3 u3:=by
  cases r1 with
  |cons p q=>
   cases q with
   |cons p' q'=>
    cases q' with
    |cons p'' q''=>
     cases q'';exact⟨_,_,_,rfl,p,p',p''⟩
 refine xAN ?_ (by show 3<=sizeLine;decide);have I2:Inv X pins σ H1 { s1 with heap:=s1.heap.push { cls:=.type "tuple",data:=.seq [u1,u2,u3].toArray } }:=I1.kept (t':=s1.toks) λb o e=>xA2 _ e
 rw[hw];refine xA1 (xA3 ?_);show wpAny (model X.prog X.w) X.A (do rule "assign.swapped-stores";let items <-unpackItems (.ref s1.heap.objs.size) 3 none;assignInOrder [λv=>bindName X.env z v,λv=>bindName X.env y v,λv=>bindName X.env x v] items.reverse;pure Flow.next) _ _ _;refine xA1 (xB9 (xA1 (unpackItems_tuple (items:=#[u1,u2,u3]) (I.ok.hd hc) (IsTup.new s1.heap _) λh' hx'=>?_)));have I3:=I2.kept (h':=h') (t':=s1.toks) λb o e=>hx' b o (xAF (xAd e)) e
 show wpAny _ _ (assignInOrder [λv=>bindName X.env z v,λv=>bindName X.env y v,λv=>bindName X.env x v] [u3,u2,u1] >>= λ_=>pure Flow.next) _ _ _;refine xA1 (assignInOrder_cons (wpAny_bindName (yaX I3 hN hk (.inl hz) r3' (λs2 I4=>?_) (.inr hz))));refine assignInOrder_cons (wpAny_bindName (yaX I4 hN hj (.inl hy) r2' (λs2 I5=>?_) (.inr hy)));refine assignInOrder_cons (wpAny_bindName (yaX I5 hN hi (.inl hx) r1' (λs3 I6=>assignInOrder_nil (xA3 ?_)) (.inr hx)));have e:((σ.set k (some v3)).set j (some v2)).set i (some v1)=((σ.set i (some v1)).set j (some v2)).set k (some v3):=by
  rw[List.set_comm (some v3) (some v2) (Ne.symm hij.2.2),List.set_comm (some v3) (some v1) (Ne.symm hij.2.1),List.set_comm (some v2) (some v1) (Ne.symm hij.1)]
 rw[e]at I6;exact⟨_,H1,I6,q1⟩
section
variable {K:PySem.W.Frag}
theorem zeE(h:X.K=K):IxR X (rIxT K):=h ▸ zas
end
end
end L2
end
section
-- text: ExtK
namespace L2
open PySem PySem.Spec PyProof.Rows
open MeetsSeq MeetsSeq2 MeetsSeq3
theorem yco:fillsNumberSlot (.type "tuple") "mul"=pure false :=
 PySem.fillsNumberSlot_seq (id:="tuple.__mul__") (r:=some (.builtin "tuple.__rmul__")) PySem.F.slot_tuple_mul.lookup (by decide +kernel) PySem.F.slot_tuple_rmul.lookup (by decide +kernel)
theorem zeb:seqRepeat? (.type "tuple")=pure (some (.builtin "tuple.__mul__")):=by
 unfold seqRepeat?;rw[PySem.seqSlot_of (T:="tuple") (name:="__mul__") (id:="tuple.__mul__") PySem.F.slot_tuple_mul.lookup (by decide +kernel),PySem.seqSlot_of (T:="tuple") (name:="__rmul__") (id:="tuple.__rmul__") PySem.F.slot_tuple_rmul.lookup (by decide +kernel)];rfl
theorem zc1(a:Int)(t:Tok)(l:Addr)(items:Array Value)(n:Nat)(dd:Option Addr)(sl:Array (Option Value)) :
  Meets (Builtin.«int.__rmul__» ⟨[.int a t,.ref l],[]⟩) (λ_ R s=>s.heap.get? l=some { cls:=.type "tuple",dict:=dd,data:=.seq items n,slots:=sl }/\R (.ok (.ret Value.notImplemented)) s) :=
 .of_wp λprog w A R s h=>by obtain⟨hp,g,d,tk,os⟩:=s;obtain⟨hl,h⟩:=h;wp_walk;exact⟨_,rfl,h⟩
theorem zei(l:Addr)(items:Array Value)(n:Nat)(dd:Option Addr)(sl:Array (Option Value))(u:Tok) :
  Meets (Builtin.«tuple.__mul__» ⟨[.ref l,.int 1 u],[]⟩) (λ_ R s=>s.heap.get? l=some { cls:=.type "tuple",dict:=dd,data:=.seq items n,slots:=sl }/\R (.ok (.ret (.ref l))) s) :=
 .of_wp λprog w A R s h=>by
  obtain⟨hp,g,d,tk,os⟩:=s;obtain⟨hl,h⟩:=h
  wp_walk
  exact⟨_,rfl,h⟩
theorem zem(l:Addr)(items:Array Value)(n:Nat)(dd:Option Addr)(sl:Array (Option Value))(u:Tok)(hne:items.isEmpty=false) :
  Meets (Builtin.«tuple.__mul__» ⟨[.ref l,.int 0 u],[]⟩) (λ_ R s=>s.heap.get? l=some { cls:=.type "tuple",dict:=dd,data:=.seq items n,slots:=sl }/\R (.ok (.ret (.ref s.heap.objs.size))) { s with heap:=s.heap.push { cls:=.type "tuple",data:=.seq #[] } }) :=
 .of_wp λprog w A R s h=>by
  obtain⟨hp,g,d,tk,os⟩:=s;obtain⟨hl,h⟩:=h;have h0:(items.isEmpty||((0:Int)==1))=false:=by rw[hne];rfl
  have h1:(decide ((0:Int)<=0)||items.isEmpty)=true:=rfl
  wp_walk
  exact⟨_,rfl,h⟩
theorem yev(l:Addr)(items:Array Value)(n:Nat)(dd:Option Addr)(sl:Array (Option Value))(x:Int)(u:Tok)(hne:items.isEmpty=false)(h2:2<=x)(h3:x<2^63)(hz:items.size*x<=(sizeLine:Int)) :
  Meets (Builtin.«tuple.__mul__» ⟨[.ref l,.int x u],[]⟩) (λ_ R s=>s.heap.get? l=some { cls:=.type "tuple",dict:=dd,data:=.seq items n,slots:=sl }/\R (.ok (.ret (.ref s.heap.objs.size))) { s with heap:=s.heap.push { cls:=.type "tuple",data:=.seq ((List.replicate x.toNat items).foldl (·++·) #[]) } }) :=
 .of_wp λprog w A R s h=>by
  obtain⟨hp,g,d,tk,os⟩:=s;obtain⟨hl,h⟩:=h;have g0:(decide (x < -(2^63))||decide (x>=2^63))=false:=by simp;lia
  have g1:(items.isEmpty||(x==1))=false:=by rw[hne];simp;lia
  have g2:(decide (x<=0)||items.isEmpty)=false:=by rw[hne];simp;lia
  have hcap:¬ items.size*x>(2^63-1)/8:=by
   have:((sizeLine:Nat):Int)<=(2^63-1)/8:=by decide
   lia
  have hl2:Builtin.Tuple.tupleTooMany (items.size*x)=false:=by unfold Builtin.Tuple.tupleTooMany;simp;lia
  wp_walk
  rw[if_neg (by rw[g0];exact xAo)]
  wp_walk
  rw[if_neg (by rw[g1];exact xAo)]
  wp_walk
  rw[if_neg (by rw[g2];exact xAo)];dsimp only;rw[if_neg hcap,if_neg (by rw[hl2];exact xAo)];have hs:((List.replicate x.toNat items).foldl (·++·) #[]).size<=sizeLine:=by
   have e:∀(k:Nat) (acc:Array Value),((List.replicate k items).foldl (·++·) acc).size=acc.size+k*items.size:=by
    intro k
    induction k with
    |zero=>intro acc;simp
    |succ k ih=>intro acc;rw[xAH,List.foldl_cons,ih,Array.size_append,Nat.succ_mul];lia
   rw[e];have h4:(items.size:Int)*x=((x.toNat*items.size:Nat):Int):=by rw[Int.natCast_mul,Int.toNat_of_nonneg (by lia),Int.mul_comm]
   rw[h4]at hz;simp;lia
  unfold Builtin.Tuple.tupleExact;refine xA1 (xAN ?_ hs);exact xA3 ⟨_,rfl,h⟩
section
variable {X:Cx}
noncomputable def yhA(K:PySem.W.Frag):R2:=λx y H Q=>∃(a:Addr) (k:Int) (xs:List V),x = .ref a/\y = .int k/\SqT K H a xs/\xs≠[]/\0<=k/\k<2^63/\xs.length*k.toNat<=sizeLine/\
 (k=1->Q (.ref a) H)/\(k≠1->∀p,H p=none->Q (.ref p) (upd H p (.tup (List.replicate k.toNat xs).flatten)))
theorem zcL:OpR X (binaryOp .Mult) (yhA X.K):=by
 intro pins s σ H x y v u Q I rx ry h;obtain⟨a,k,xs,rfl,rfl,ha,hne,h0,h1,hz,q1,q2⟩:=h;cases rx;obtain⟨t,rfl⟩:=ry;obtain⟨its,r,⟨⟨cls,dd,data,sl⟩,ho,hc,n,hd⟩,z⟩:=I.tuple ha;simp only at hc hd;subst hc hd;have hl:=r.length;have hine:its.toArray.isEmpty=false:=by
  cases its with
  |nil=>cases r;exact absurd rfl hne
  |cons _ _=>rfl
 refine wpAny_binaryOp_repeat_ref (T:="tuple") (U:="int") (by decide) ⟨_,ho,rfl⟩ (λs'=>typeIs_int s' k t) yco F.fills_int_mul F.slot_int_rmul zeb F.slot_int_index.lookup
  (call_meets F.slot_int_rmul (typeIs_int s k t) F.entry_int_rmul (F.args_int_rmul_2 _ _) (zc1 k t a its.toArray n dd sl) ⟨ho,rfl,⟨_,ho,rfl⟩,?_⟩)
 by_cases e1:k=1
 ·subst e1;exact call_meets PySem.F.slot_tuple_mul ⟨_,ho,rfl⟩ PySem.F.entry_tuple_mul (PySem.F.args_tuple_mul_2 _ _) (zei a its.toArray n dd sl t) ⟨ho,⟨.ref a,H,I,rfl,q1 rfl⟩⟩
 ·by_cases e0:k=0
  ·subst e0;refine call_meets PySem.F.slot_tuple_mul ⟨_,ho,rfl⟩ PySem.F.entry_tuple_mul (PySem.F.args_tuple_mul_2 _ _) (zem a its.toArray n dd sl t hine) ⟨ho,?_⟩;exact⟨.ref s.heap.objs.size,_,I.laid (t':=s.toks) (o:=.tup []) (λb ob q=>xA2 _ q) (xA4 _) ⟨xB7 _,[],.nil,IsTup.new _ _⟩,rfl,q2 e1 _ (I.hok.fresh (xA4 _))⟩
  ·have hz2:(its.toArray.size:Int)*k<=(sizeLine:Int):=by
    rw[xAa,<-hl];have h4:(xs.length:Int)*k=((xs.length*k.toNat:Nat):Int):=by rw[Int.natCast_mul,Int.toNat_of_nonneg h0]
    rw[h4];lia
   refine call_meets PySem.F.slot_tuple_mul ⟨_,ho,rfl⟩ PySem.F.entry_tuple_mul (PySem.F.args_tuple_mul_2 _ _) (yev a its.toArray n dd sl k t hine (by lia) h1 hz2) ⟨ho,?_⟩;have hnew:List.foldl (λx1 x2=>x1++x2) #[] (List.replicate k.toNat its.toArray)=(List.replicate k.toNat its).flatten.toArray:=by
    have:=zcW its k.toNat [];rw[List.nil_append]at this;exact this
   rw[hnew];refine⟨.ref s.heap.objs.size,_,I.laid (t':=s.toks) (o:=.tup (List.replicate k.toNat xs).flatten) (λb ob q=>xA2 _ q) (xA4 _) ⟨by rw[zgf,xBb];exact hz,_,r.rep k.toNat,IsTup.new _ _⟩,rfl,q2 e1 _ (I.hok.fresh (xA4 _))⟩
theorem yer(l b:Addr)(items2:Array Value)(n n2:Nat)(dd dd2:Option Addr)(sl sl2:Array (Option Value)) :
  Meets (Builtin.«tuple.__add__» ⟨[.ref l,.ref b],[]⟩) (λ_ R s=>s.heap.get? l=some { cls:=.type "tuple",dict:=dd,data:=.seq #[] n,slots:=sl }/\s.heap.get? b=some { cls:=.type "tuple",dict:=dd2,data:=.seq items2 n2,slots:=sl2 }/\R (.ok (.ret (.ref b))) s) :=
 .of_wp λprog w A R s h=>by
  obtain⟨hp,g,d,tk,os⟩:=s;obtain⟨hl,hb,h⟩:=h;have hsub:isSubtype (.type "tuple") (.type "tuple")=pure true:=by rw[isSubtype_type];kernel_rfl
  wp_walk
  exact⟨_,rfl,h⟩
noncomputable def yhK(K:PySem.W.Frag):R2:=λx y H Q=>∃(a b:Addr) (xs ys:List V),x = .ref a/\y = .ref b/\SqT K H a xs/\SqT K H b ys/\xs.length+ys.length<=sizeLine/\
 (xs=[]->Q (.ref b) H)/\(xs≠[]->ys=[]->Q (.ref a) H)/\(xs≠[]->ys≠[]->∀p,H p=none->Q (.ref p) (upd H p (.tup (xs++ys))))
theorem ycP:OpR X (binaryOp .Add) (yhK X.K):=by
 intro pins s σ H x y v u Q I rx ry h;obtain⟨a,b,xs,ys,rfl,rfl,ha,hb,hz,q0,q1,q2⟩:=h;by_cases hx:xs=[]
 ·subst hx;cases rx;cases ry;obtain⟨its,r1,⟨⟨cls,dd,data,sl⟩,ho,hc,n,hd⟩,_⟩:=I.tuple ha;obtain⟨its2,r2,⟨⟨cls2,dd2,data2,sl2⟩,ho2,hc2,n2,hd2⟩,_⟩:=I.tuple hb;simp only at hc hd hc2 hd2;subst hc hd hc2 hd2;cases r1;exact concat_meets ⟨_,ho,rfl⟩ ⟨_,ho2,rfl⟩ noFill_tuple_add seq_tuple_add PySem.F.slot_tuple_add PySem.F.entry_tuple_add (PySem.F.args_tuple_add_2 _ _) (yer a b its2.toArray n n2 dd dd2 sl sl2) ⟨ho,ho2,⟨.ref b,H,I,rfl,q0 rfl⟩⟩
 ·exact zhu pins s σ H _ _ v u Q I rx ry ⟨a,b,xs,ys,rfl,rfl,ha,hb,hx,hz,q1 hx,q2 hx⟩
end
end L2
end
section
-- text: ExtL
namespace L2
open PySem PySem.Spec PyProof.Rows
section
variable {prog:Program} {w:World} {A:Around} {E:Value->Shared->Prop} {s:Shared}
end
theorem zdg:bootBuiltins "reversed"=some (.type "reversed"):=by decide +kernel
section
variable {X:Cx}
end
end L2
end
section
-- text: ExtM
namespace L2
open PySem PySem.Spec PyProof.Rows
theorem zcx:∀ {ns:List Int} {us:List Value},Vals (ns.map V.int) us->IntsAre us ns
 | [],[],_=>.nil
 | [],_::_,r=>by cases r
 |_::_,[],r=>by cases r
 |n::ns,u::us,.cons r t=>by
  obtain⟨tk,rfl⟩:=r;exact .cons n tk (zcx t)
theorem ybB:∀ {us:List Value} {ns:List Int},IntsAre us ns->Vals (ns.map V.int) us
 |_,_,.nil=>.nil
 |_,_,.cons n t h=>.cons ⟨t,rfl⟩ (ybB h)
section
variable {X:Cx}
noncomputable def zht(K:PySem.W.Frag):List V->Hp->VK->Prop:=λvs H Q=>∃(a:Addr) (ns:List Int),vs=[.ref a]/\SqL K H a (ns.map V.int)/\ns.length<64/\
 ∀(l:Addr) (ns':List Int),H l=none->ns'.Perm ns->ns'.Pairwise (·<=·)->Q (.ref l) (upd H l (.lst (ns'.map V.int)))
theorem zeB:zbR X (.builtin "sorted") (zht X.K):=by
 intro pins s σ H xs us Q I r h;obtain⟨a,ns,rfl,ha,hl,q⟩:=h;obtain⟨u,rfl,rx⟩:=ycg r;cases rx;obtain⟨its,r1,p1,z1⟩:=I.list ha;have hlen:=r1.length;rw[xA0]at hlen z1;refine sorted_ints p1.isList (zcx r1) (by lia) λout ns' a1 a2 a3=>?_
 obtain⟨e,he⟩:=sortedAll_at s.heap its out;have r2:Vals (ns'.map V.int) out.toList:=ybB a1;refine⟨.ref (s.heap.objs.size+1),_,I.laid (a:=s.heap.objs.size+1) (t':=s.toks) (o:=.lst (ns'.map V.int)) (λb ob e=>sortedAll_old e) (Nat.le_succ _) ⟨?_,out.toList,e,r2,?_⟩,rfl,q _ ns' (I.hok.fresh (Nat.le_succ _)) a2 a3⟩
 ·rw[xA0,a2.length_eq];exact z1
 ·rw[he]
end
end L2
end
section
-- text: ExtN
namespace L2
open PySem PyProof.Rows
section
variable {X:Cx}
theorem ygw{xs:List V}{us:List Value}(h:Vals xs us){i:Nat}(hi:i<us.toArray.size):∃x,xs[i]?=some x/\RelV x us.toArray[i]:=by
 have hl:=h.length;rw[xAa]at hi;have hx:xs[i]?=some (xs[i]'(by lia)):=xA5 (by lia);have hu:us[i]?=some (us[i]):=xA5 hi;exact⟨_,hx,h.getR i _ _ hx hu⟩
end
end L2
end
section
-- text: ExtO
namespace L2
open PySem PyProof.Rows
noncomputable def Rise(xs:Array Nat):Prop:=xs.toList.Pairwise (· < ·)
theorem ycv{xs:Array Nat}(h:Rise xs){i j:Nat}(hij:i<j)(hj:j<xs.size):xs[i]'(by lia)<xs[j]:=by
 have:=List.pairwise_iff_getElem.mp h i j (by simpa using (by lia:i<xs.size)) (by simpa using hj) hij
 simpa using this
theorem zdE{xs:Array Nat}(h:Rise xs)(j:Nat):∀(fuel lo hi:Nat),hi-lo<=fuel->lo<=hi->hi<=xs.size->
  (∀i (hi':i<xs.size),i<lo->xs[i]<j)->(∀i (hi':i<xs.size),hi<=i->j<=xs[i])->
  SetTable.below.go xs j fuel lo hi<=xs.size/\(∀i (hi':i<xs.size),i<SetTable.below.go xs j fuel lo hi->xs[i]<j)/\(∀i (hi':i<xs.size),SetTable.below.go xs j fuel lo hi<=i->j<=xs[i])
 |0,lo,hi,hf,hl,hs,h1,h2=>by
  have e:lo=hi:=by lia
  subst e;exact⟨hs,h1,h2⟩
 |fuel+1,lo,hi,hf,hl,hs,h1,h2=>by
  unfold SetTable.below.go;by_cases c:lo<hi
  ·rw[if_pos c];have hm:(lo+hi)/2<xs.size:=by lia
   have eg:xs.getD ((lo+hi)/2) j=xs[(lo+hi)/2]:=by simp[Array.getD,hm]
   dsimp only;rw[eg];by_cases d:xs[(lo+hi)/2]<j
   ·rw[if_pos d];refine zdE h j fuel _ _ (by lia) (by lia) hs (λi hi' hlt=>?_) h2;by_cases e:i=(lo+hi)/2
    ·subst e;exact d
    ·exact Nat.lt_trans (ycv h (by lia) hm) d
   ·rw[if_neg d];refine zdE h j fuel _ _ (by lia) (by lia) (by lia) h1 λi hi' hge=>?_
    by_cases e:i=(lo+hi)/2
    ·subst e;lia
    ·have:=ycv h (show(lo+hi)/2<i by lia) hi';lia
  ·rw[if_neg c];have e:lo=hi:=by lia
   subst e;exact⟨hs,h1,h2⟩
theorem zci{xs:Array Nat}(h:Rise xs)(j:Nat):SetTable.below xs j<=xs.size/\(∀i (hi':i<xs.size),i<SetTable.below xs j->xs[i]<j)/\(∀i (hi':i<xs.size),SetTable.below xs j<=i->j<=xs[i]) :=
 zdE h j xs.size 0 xs.size (by lia) (by lia) (xA4 _) (λi _ hi=>absurd hi (Nat.not_lt_zero _)) (λi hi' hge=>absurd hi' (by lia))
theorem yeh{xs:Array Nat}(h:Rise xs){j:Nat}(hn:xs[SetTable.below xs j]?≠some j):Rise (SetTable.insertAt xs (SetTable.below xs j) j):=by
 obtain⟨h1,h2,h3⟩:=zci h j;generalize SetTable.below xs j=r at *;unfold Rise;rw[SetTable.toList_insertAt];have hd:∀y∈xs.toList.drop r,j<y:=by
  intro y hy;obtain⟨i,hi,e⟩:=List.getElem_of_mem hy;rw[List.getElem_drop]at e;have hi2:r+i<xs.size:=by simp at hi;lia
  have e2:y=xs[r+i]:=by rw[<-e];simp
  have h4:=h3 (r+i) hi2 (by lia);have h5:r<xs.size:=by lia
  have h6:=h3 r h5 (xA4 _);have h7:xs[r]≠j:=λq=>hn (by rw[xAM h5,q])
  by_cases c:i=0
  ·subst c;rw[e2];simp only[Nat.add_zero];lia
  ·have:=ycv h (show r<r+i by lia) hi2;rw[e2];lia
 have ht:∀y∈xs.toList.take r,y<j:=by
  intro y hy;obtain⟨i,hi,e⟩:=List.getElem_of_mem hy;rw[List.getElem_take]at e;have hi2:i<xs.size:=by simp at hi;lia
  have e2:y=xs[i]:=by rw[<-e];simp
  rw[e2];exact h2 i hi2 (by simp at hi;lia)
 refine List.pairwise_append.mpr ⟨List.Pairwise.sublist (List.take_sublist _ _) h,List.pairwise_cons.mpr ⟨hd,List.Pairwise.sublist (List.drop_sublist _ _) h⟩,λa ha b hb=>?_⟩;rcases xA9.mp hb with rfl|hb
 ·exact ht a ha
 ·exact Nat.lt_trans (ht a ha) (hd b hb)
theorem ydE{t:SetTable}{f:Nat->Int}{h:Int}:∀(fuel:Nat) (p:SetTable.Probe) {j:Nat} {d:Option Nat},(∀e,p.dummy=some e->t.slot e = .dummy)->SetTable.probe.go t f h fuel p=some (.empty j d)->t.slot j = .empty/\∀e,d=some e->t.slot e = .dummy
 |0,p,j,d,_,e=>by cases e
 |fuel+1,p,j,d,hp,e=>by
  unfold SetTable.probe.go at e;have adv:∀q:SetTable.Probe,(t.advance q).dummy=q.dummy:=λq=>by unfold SetTable.advance;split <;> rfl
  cases hs:t.slot p.j with
  |empty=>rw[hs]at e;cases e;exact⟨hs,hp⟩
  |dummy=>
   rw[hs]at e;refine ydE fuel _ (λx hx=>?_) e;rw[adv]at hx;cases hx;exact hs
  |live i=>
   rw[hs]at e;dsimp only at e;split at e
   ·cases e
   ·refine ydE fuel _ (λx hx=>?_) e;rw[adv]at hx;exact hp x hx
theorem yfD{t:SetTable}{h:Int}{j:Nat}{b:Bool}(e:t.freeSlot h=some (j,b)):∀i,t.slot j≠.live i:=by
 unfold SetTable.freeSlot at e;split at e
 ·rename_i j' d hm;obtain⟨h1,h2⟩:=ydE (t:=t) _ _ (λe he=>by cases he) hm;cases e;intro i;cases d with
  |none=>show t.slot j'≠_;rw[h1];exactλq=>nomatch q
  |some d=>show t.slot d≠_;rw[h2 d rfl];exactλq=>nomatch q
 ·cases e
theorem zfp{t:SetTable}{j:Nat}(h:∀i,t.slot j≠.live i):t.place[SetTable.below t.place j]?≠some j:=λe=>by
 refine h (SetTable.below t.place j) ?_;unfold SetTable.slot;dsimp only;rw[if_pos (by rw[e];exact xBo _)]
structure TabG(led:Bool)(t:SetTable):Prop where
 led:t.led=led
 rise:t.plain=true->Rise t.place
theorem TabG.standIn{led:Bool}{t:SetTable}(h:TabG led t)(n:Nat):TabG led (t.standIn n):=⟨h.led,λe=>by cases e⟩
theorem zgt{led:Bool}{t:SetTable}(h:TabG led t)(es:Array (Int×Value))(k:Int)(x:Value):TabG led (layNew t es k x).2.1:=by
 unfold layNew;split
 ·rename_i slot wasDummy he;dsimp only;have hp:TabG led (t.put slot).1:=by
   refine⟨h.led,λe=>?_⟩;exact yeh (h.rise e) (zfp (yfD he))
  unfold SetTable.orStandIn;split
  ·exact hp
  ·exact hp.standIn _
 ·exact h.standIn _
theorem ze8{led:Bool}{t:SetTable}(h:TabG led t)(es:Array (Int×Value))(n:Nat):TabG led (relayAll t es n).2.1:=by
 unfold relayAll;split
 ·rename_i t' order he;have ht:TabG led t':=by
   unfold SetTable.relaid SetTable.laid at he;simp only[Option.bind_eq_bind,Option.bind_eq_some_iff]at he;obtain⟨owner,_,he⟩:=he;cases he;refine⟨h.led,λ_=>?_⟩;unfold Rise;dsimp only;rw[List.pairwise_map,List.pairwise_filterMap];refine List.Pairwise.imp ?_ List.pairwise_lt_range;intro a b hab x hx y hy;cases h1:owner.getD a none with
   |none=>rw[h1]at hx;cases hx
   |some u=>
    cases h2:owner.getD b none with
    |none=>rw[h2]at hy;cases hy
    |some v=>rw[h1]at hx;rw[h2]at hy;cases hx;cases hy;exact hab
  dsimp only;split
  ·exact ht
  ·exact h.standIn _
 ·exact h.standIn _
section
variable {prog:Program} {w:World} {A:Around} {E:Value->Shared->Prop} {s:Shared}
noncomputable abbrev ybe(w:World):Bool:=w.params.followText "set-order"
noncomputable def SetG(w:World)(prog:Program)(h:Heap)(a:Addr)(S:Int->Bool)(n:Nat):Prop :=
 ∃o es ep t,h.get? a=some o/\o.ExactSet/\o.data = .set es ep t/\ElemsOf (intKind prog w) es.toList/\(∀k,S k=true↔∃e∈es.toList,(intKind prog w).is k e.2=true)
  /\es.size<scanBound/\t.fits es.size=true/\es.size=n/\TabG (!ybe w) t
theorem ydV{h:Heap}{a:Addr}{o:Obj}{es:Array (Int×Value)}{ep:Nat}{t:SetTable}(ho:h.get? a=some o)(hd:o.data = .set es ep t)(es':Array (Int×Value))(t':SetTable) :
  (h.update a (Obj.putSet es' t')).get? a=some { o with data:=.set es' (ep+1) t' }:=by
 have:=xBg (Obj.putSet es' t') ho (by rw[putSet_of es' t' hd];rfl);rw[putSet_of es' t' hd]at this;exact this
theorem zil{a:Addr}{S:Int->Bool}{n:Nat}{k:Int}{tk:Tok}{Q:Bool->Shared->Prop}(hS:SetG w prog s.heap a S n)(hroom:n+1<scanBound)
  (h:∀h' b,Heap.SameBut a s.heap h'->SetG w prog h' a (λk'=>S k'||decide (k'=k)) (if S k then n else n+1)->Q b { s with heap:=h' }) :
  wpAny (model prog w) A (setAddHashed a (.int k tk) ((intKind prog w).hash k)) Q E s:=by
 obtain⟨o,es,ep,t,ho,hex,hd,hel,hmem,hb,hf,hn,hG⟩:=hS;have hkey:(intKind prog w).is k (.int k tk)=true:=intKind_is _ _ _ _;have hsc:(Value.int k tk).scannable=true:=rfl;unfold setAddHashed setAddHashedIn;refine xBf (xA1 (wpAny_setState_of ho hd hf ?_));dsimp only;rw[byScan_of hsc hb hel,if_pos rfl];unfold setAddByScan;refine xA1 (xA1 (xB9 (xA1 (wpAny_setScan_of hkey ho hd hf hel ?_))));cases hr:List.findIdx? (λe=>(intKind prog w).is k e.2) es.toList with
 |some j=>
  obtain⟨hj,hpj,_⟩:=List.findIdx?_eq_some_iff_getElem.mp hr;have hSk:S k=true:=(hmem k).mpr ⟨es.toList[j],xBp hj,hpj⟩;refine xA3 (xA3 ?_);have h1:=h s.heap false (Heap.SameBut.refl a s.heap) ⟨o,es,ep,t,ho,hex,hd,hel,λk'=>by
   rw[Bool.or_eq_true,xBm,<-hmem k'];exact⟨λhk=>hk.elim id (λe=>e ▸ hSk),.inl⟩,hb,hf,by rw[hSk];exact hn,hG⟩
  exact h1
 |none=>
  have hSk:S k=false:=by
   cases hk:S k with
   |false=>rfl
   |true=>
    obtain⟨e,he,hp⟩:=(hmem k).mp hk;have:=List.findIdx?_eq_none_iff.mp hr e he;rw[hp]at this;cases this
  have hperm:=layNew_perm t es ((intKind prog w).hash k) (.int k tk);have hfits:=layNew_fits t es ((intKind prog w).hash k) (.int k tk);have hG1:=zgt hG es ((intKind prog w).hash k) (.int k tk);dsimp only;generalize layNew t es ((intKind prog w).hash k) (.int k tk)=L at hperm hfits hG1 ⊢;obtain⟨es1,t1,wasDummy,gave⟩:=L;dsimp only at hperm hfits hG1 ⊢;rw[Array.toList_push]at hperm;have hel1:ElemsOf (intKind prog w) es1.toList:=(hel.push hkey hsc).perm hperm;have hmem1:∀k',(S k'||decide (k'=k))=true↔∃e∈es1.toList,(intKind prog w).is k' e.2=true:=mem_push_iff hkey hmem hperm;have hsz1:es1.size=n+1:=by rw[<-xAm,hperm.length_eq,xAt,xAm,hn];rfl
  have hz:es1.size<=sizeLine:=fits_of_scanBound (by lia);have en:(if S k=true then n else n+1)=n+1:=by rw[hSk];rfl
  rw[en]at h;have fin:∀t2:SetTable,TabG (!ybe w) t2->t2.fits es1.size=true->wpAny (model prog w) A (storeSet a es1 t2 >>= λ_=>if (!wasDummy&&t2.tooFull)=true then
     (match (relayAll t2 es1 (SetTable.grown es1.size)).2.2 with|true=>rule "set.scan.the-table-gave-way"|false=>pure ()) >>= λ_=>storeSet a (relayAll t2 es1 (SetTable.grown es1.size)).1 (relayAll t2 es1 (SetTable.grown es1.size)).2.1 >>= λ_=>pure (some true)
    else pure (some true)) (λr s'=>∃h',s'={ s with heap:=h' }/\r=some true/\Heap.SameBut a s.heap h'/\SetG w prog h' a (λk'=>S k'||decide (k'=k)) (n+1)) E s:=by
   intro t2 g2 f2;refine xA1 (wpAny_storeSet_of ho hd ?_ hz);have o1:=ydV ho hd es1 t2;have b1:=xBu s.heap a (Obj.putSet es1 t2);split
   ·have hp:=relayAll_perm t2 es1 (SetTable.grown es1.size);have hfr:=relayAll_fits t2 es1 (SetTable.grown es1.size);have g3:=ze8 g2 es1 (SetTable.grown es1.size);generalize relayAll t2 es1 (SetTable.grown es1.size)=Rl at hp hfr g3 ⊢;obtain⟨es2,t3,gave2⟩:=Rl;dsimp only at hp hfr g3 ⊢;have hsz:es2.size=es1.size:=by rw[<-xAm,hp.length_eq,xAm]
    have rest:wpAny (model prog w) A (storeSet a es2 t3 >>= λ_=>pure (some true)) (λr s'=>∃h',s'={ s with heap:=h' }/\r=some true/\Heap.SameBut a s.heap h'/\SetG w prog h' a (λk'=>S k'||decide (k'=k)) (n+1)) E { s with heap:=s.heap.update a (Obj.putSet es1 t2) }:=by
     refine xA1 (wpAny_storeSet_of o1 rfl ?_ (by lia));exact xA3 ⟨_,rfl,rfl,b1.trans (xBu _ a _),_,es2,_,t3,ydV o1 rfl es2 t3,hex,rfl,hel1.perm hp,λk'=>(hmem1 k').trans ⟨λ⟨e,he,q⟩=>⟨e,hp.mem_iff.mpr he,q⟩,λ⟨e,he,q⟩=>⟨e,hp.mem_iff.mp he,q⟩⟩,by lia,hfr,by lia,g3⟩
    cases gave2
    ·exact xA1 (xA3 rest)
    ·exact xA1 (xB9 rest)
   ·exact xA3 ⟨_,rfl,rfl,b1,_,es1,_,t2,o1,hex,rfl,hel1,hmem1,by lia,f2,hsz1,g2⟩
  have hgw:∀(b:Bool) {s₁:Shared} {Q':Unit->Shared->Prop},Q' () s₁->wpAny (model prog w) A (match b with|true=>rule "set.scan.the-table-gave-way"|false=>pure ()) Q' E s₁ :=
   λb s₁ Q' hq=>by cases b <;> first|exact xA3 hq|exact xB9 hq
  refine xA1 (hgw gave ?_);split
  ·refine xA1 ?_;rw[hashByValue_scannable 8 hsc];refine xA3 ?_;refine thn (fin t1 hG1 hfits) λr s' ⟨h',e1,e2,b,g⟩=>?_
   subst e1;subst e2;exact xA3 (h h' true b g)
  ·refine xA1 (xA3 ?_);refine thn (fin t1 hG1 hfits) λr s' ⟨h',e1,e2,b,g⟩=>?_
   subst e1;subst e2;exact xA3 (h h' true b g)
theorem SetG.at{h h':Heap}{a:Addr}{S:Int->Bool}{n:Nat}(x:SetG w prog h a S n)(e:∀o,h.get? a=some o->h'.get? a=some o):SetG w prog h' a S n:=by
 obtain⟨o,es,ep,t,ho,r⟩:=x;exact⟨o,es,ep,t,e o ho,r⟩
theorem SetG.congr{h:Heap}{a:Addr}{S S':Int->Bool}{n n':Nat}(x:SetG w prog h a S n)(e:∀k,S k=S' k)(en:n=n'):SetG w prog h a S' n':=by
 have:S=S':=funext e;subst this;subst en;exact x
section
variable {R:Result->Shared->Prop} {I:Addr} {fp wr:List Addr} {G:Array GenState->Array GenState->Prop} {n:Nat} {P:Nat->Value->Prop} {St:Nat->Shared->Prop}
theorem yh5(W:WalksS prog w A.in1 I fp wr G n P St)(S:Addr)(hSf:S∉fp)(val:Nat->Int)(hval:∀i v,P i v->∃t,v = .int (val i) t)(hb:n+1<scanBound):∀(k i:Nat) (s:Shared),n-i=k->i<=n->St i s->
   SetG w prog s.heap S (λk'=>(firstMet val i).any (·==k')) (firstMet val i).length->
   (∀s',Moved (S::wr) G s s'->SetG w prog s'.heap S (λk'=>(firstMet val n).any (·==k')) (firstMet val n).length->R (.ok (.ret .none)) s')->
   codeAny (model prog w) A (.builtin "set.update.loop" ⟨[.ref S,.ref I],[]⟩) R s:=by
 have hSw:S∉wr:=λh=>hSf (W.sub _ h)
 have hsub:∀b∈wr,b∈S::wr:=λb hb=>xA7 _ hb
 intro k
 induction k with
 |zero=>
  intro i s hk hi hst hS hR;obtain rfl:i=n:=by lia
  refine codeAny_builtin F.entry_set_update_loop ?_;rw[xBr F.plain_set_update_loop _];show wpAny _ A.in1 (pyNext (.ref I) >>= _) _ _ s;refine xA1 (W.done s _ _ hst λs' hm=>?_);exact xA3 (hR s' (hm.mono hsub) (hS.at λo e=>hm.heap S o hSw e))
 |succ k ih=>
  intro i s hk hi hst hS hR;have hlt:i<n:=by lia
  refine codeAny_builtin F.entry_set_update_loop ?_;rw[xBr F.plain_set_update_loop _];show wpAny _ A.in1 (pyNext (.ref I) >>= _) _ _ s;refine xA1 (W.item i s _ _ hlt hst λv s' hP hst' hm=>?_);obtain⟨t,rfl⟩:=hval i v hP;have hS':=hS.at (h':=s'.heap) λo e=>hm.heap S o hSw e
  show wpAny _ A.in1 (holding [Value.int (val i) t] (setAdd S (.int (val i) t)) >>= _) _ _ s';refine xA1 (xBf ?_);unfold setAdd;refine xBf (xA1 ((intKind prog w).pyHash (k:=val i) (intKind_is _ _ _ _) ?_));have hroom:(firstMet val i).length+1<scanBound:=by have:=firstMet_length_le val i;lia
  refine zil (s:={ s' with toks:=s'.toks+1 }) hS' hroom λh' b hsb hS2=>?_
  have hSi:SetG w prog h' S (λk'=>(firstMet val (i+1)).any (·==k')) (firstMet val (i+1)).length:=hS2.congr (λk'=>by rw[firstMet_succ,step_any]) (by rw[firstMet_succ,step_length]);refine xA3 ⟨plainId_quiet F.plain_set_update_loop _,ih (i+1) _ (by lia) hlt (W.frame _ s' _ _ hst' (Nat.le_succ _) λb hb o e=>?_) hSi λs'' hm'' hS''=>?_⟩
  ·rw[hsb.2 b (λh:b=S=>hSf (by rw[<-h];exact hb))];exact e
  ·refine hR s'' (Moved.trans W.gtrans ((hm.mono hsub).then_heap (Nat.le_succ _) λb o hb e=>?_) hm'') hS'';rw[hsb.2 b (λh:b=S=>hb (by rw[h];exact xAb))];exact e
end
noncomputable abbrev zbk(w:World):Obj:={ cls:=.type "set",dict:=none,data:=.set #[] 0 (.fresh 0 0 (!ybe w)) }
theorem ygv{h:Heap}{a:Addr}(e:h.get? a=some (zbk w)):SetG w prog h a (λ_=>false) 0 :=
 ⟨_,#[],0,_,e,⟨rfl,rfl,rfl⟩,rfl,λe he=>by simp at he,λk=>by simp,by decide,by rfl,rfl,⟨rfl,λ_=>List.Pairwise.nil⟩⟩
theorem yf9(a:Value){Q₁:Value->Shared->Prop}(h:Q₁ (.ref s.heap.objs.size) { s with heap:=s.heap.push (zbk w) }) :
  codeAny (model prog w) A (.call (.builtin "set.__new__") ⟨[.type "set",a],[]⟩) (wants Q₁ E) s:=by
 refine codeAny_of_tree ?_;show wpAny _ A.in1 (do checkBuiltinCall "set.__new__" ⟨[.type "set",a],[]⟩;again (.builtin "set.__new__" ⟨[.type "set",a],[]⟩)) _ _ s;refine xA1 (xBs (F.newCall_set_1 a) (xA3 ⟨plainId_quiet F.plain_set_new _,codeAny_builtin F.entry_set_new ?_⟩));rw[xBr F.plain_set_new _];unfold Builtin.«set.__new__» Builtin.Frozenset.newClass;have hsub:=sub_set_self;obtain⟨hp,g,d,tk,os⟩:=s;dsimp only
 wp_walk
 refine wpAny_askSetting (xA3 ?_);dsimp only;simp only[newObj];refine xA1 (wpAny_alloc (xA3 ?_));exact xA3 h
set_option maxHeartbeats 8000000 in
theorem zfb{l:Addr}{items:Array Value}{ns:List Int}{Q:Value->Shared->Prop}(hh:A.handled=none)(hl:s.heap.IsList l items)(hi:IntsAre items.toList ns)(hb:items.size+1<scanBound)
  (h:∀(h':Heap) (tk:Nat),SetG w prog h' s.heap.objs.size (λk'=>(firstMet (λi=>ns.getD i 0) items.size).any (·==k')) (firstMet (λi=>ns.getD i 0) items.size).length->
   (∀b o,s.heap.get? b=some o->h'.get? b=some o)->Q (.ref s.heap.objs.size) { s with heap:=h',toks:=tk }) :
  wpAny (model prog w) A (call (.type "set") [.ref l]) Q E s:=by
 obtain⟨c,tl,hmro⟩:=F.called_set.mro;have hmade:=F.called_set.made;have hsub:=F.called_set.sub;refine wpAny_call (codeAny_of_tree ?_);show wpAny _ _ (callAny (.type "set") _) _ _ _;refine xA3 ⟨Code.quiet_builtin _ (by decide +kernel),codeAny_builtin F.entry_type_call ?_⟩;rw[Around.under_plain (weight_type_call_type "set" [.ref l] []) rfl];have h1:=F.called_set.notType;have h2:=F.called_set.canCreate;have hct:=F.typeCall_set_1 (.ref l)
 repeat (any_goals (first|assumption|wp_step))
 refine codeAny_mono (yf9 (.ref l) (E:=E) (Q₁:=λobj s₁=>obj = .ref s.heap.objs.size/\s₁={ s with heap:=s.heap.push (zbk w) }) ⟨rfl,rfl⟩) λr s₁ hr=>?_
 cases r with
 |error e=>exact hr
 |ok fl=>
  cases fl with
  |ret obj=>
   obtain⟨rfl,rfl⟩:=hr;have hS:(s.heap.push (zbk w)).get? s.heap.objs.size=some (zbk w):=xA6 _ rfl;have hT:Shared.TypeIs { s with heap:=s.heap.push (zbk w) } (.ref s.heap.objs.size) "set":=⟨_,hS,rfl⟩
   have hli:=F.called_set.init.lookup;have hbi:=F.called_set.init.bind (.ref s.heap.objs.size)
   repeat (any_goals (first|assumption|wp_step))
   refine codeAny_mono (codeAny_call_builtin (R:=wants (λr s₂=>r = .none/\∃h' tk,s₂={ s with heap:=h',toks:=tk }/\
     SetG w prog h' s.heap.objs.size (λk'=>(firstMet (λi=>ns.getD i 0) items.size).any (·==k')) (firstMet (λi=>ns.getD i 0) items.size).length/\
     (∀b o,s.heap.get? b=some o->h'.get? b=some o)) E) F.called_set.init.plain F.entry_set_init (check_set_init_1 hT ?_)) λr₂ s₂ hr₂=>?_
   ·obtain⟨ol,hol,hcl,nl,hdl⟩:=hl;obtain⟨ocls,odict,odata,oslots⟩:=ol;simp only at hcl hdl;subst hcl;subst hdl;have hol':(s.heap.push (zbk w)).get? l=some { cls:=.type "list",dict:=odict,data:=.seq items nl,slots:=oslots }:=xA2 _ hol;have hsls:=F.sub_list_set;have hslf:=F.sub_list_frozenset;have hne:(Value.type "list"==Value.type "dict")=false:=by decide
    have hl1:(s.heap.push (zbk w)).IsList l items:=⟨_,hol',rfl,nl,rfl⟩
    unfold Builtin.«set.__init__» noKeywords Builtin.Frozenset.updateFrom;generalize hPI:pyIter=PI
    wp_walk
    subst hPI;refine wpAny_pyIter_list hl1 ?_;refine xA1 (wpAny_runValue ?_);have hlS:l<s.heap.objs.size:=xAd hol;have hneI:l≠(s.heap.push (zbk w)).objs.size:=by rw[xB6];exact xAF (Nat.lt_succ_of_lt hlS)
    have hSf:s.heap.objs.size∉[(s.heap.push (zbk w)).objs.size,l]:=by
     rw[xB6];simp only[xA9,xAn,xB0,not_or];exact⟨xAF (Nat.lt_succ_self _),Nat.ne_of_gt hlS⟩
    refine yh5 ((Walks.list (by simp[hh]) _ l hneI items).toS) s.heap.objs.size hSf (λi=>ns.getD i 0) (λi v hv=>IntsAre.int_at hi i v (by rw[Array.getElem?_toList];exact hv)) hb (items.size-0) 0 _ (by lia) (xB7 _)
     ⟨⟨_,xA6 _ rfl,rfl,rfl⟩,(hl1.push _)⟩ ((ygv (xA2 _ hS)).congr (λ_=>rfl) rfl) λs' hm hS'=>?_
    obtain⟨h',g',d',tk',os'⟩:=s';obtain rfl:g'=s.gens:=hm.gens;obtain rfl:d'=s.drawn:=hm.drawn;obtain rfl:os'=s.os:=hm.os;show wpAny _ _ _ _ _ _;refine xA3 ?_;show wpAny _ _ (ret Value.none) _ _ _;refine xA3 ⟨rfl,h',tk',rfl,hS',λb o e=>?_⟩;have hb:=xAd e;refine hm.heap b o ?_ (xA2 _ (xA2 _ e));simp only[xA9,xAn,xB0,not_or];rw[xB6];exact⟨xAF hb,xAF (Nat.lt_succ_of_lt hb)⟩
   ·cases r₂ with
    |error e=>exact hr₂
    |ok fl₂=>
     cases fl₂ with
     |ret r=>
      obtain⟨rfl,h',tk,rfl,hS',hk'⟩:=hr₂
      repeat (any_goals (first|assumption|wp_step))
      exact h _ _ hS' hk'
     |_=>exact hr₂.elim
  |_=>exact hr.elim
end
end L2
end
section
-- text: ExtP
namespace L2
open PySem PyProof.Rows
theorem zbd:Manifest.owners.lookup (String.ofList ['r','o','t','a','r','e','t','i','_','t','e','s'].reverse)=some Manifest.sig_set_iterator:=by kernel_rfl
theorem zat:Slot "set_iterator" "__next__" "set_iterator.__next__" :=
 .of (owner:="set_iterator") (n:="__next__") (by rw[typeLookup_type,builtinLookup_eq_fast];kernel_rfl) (by decide +kernel) (by decide +kernel) (by decide +kernel)
  (by first|exact .inl (by decide +kernel)|exact .inr (by decide +kernel)) (by rw[isSubtype_type];kernel_rfl)
theorem za4:entryFor table "set_iterator.__next__"=some Builtin.«set_iterator.__next__»:=entryFor_of_tree (by kernel_rfl)
theorem zaW(a:Value):argsOk "set_iterator.__next__" ⟨[a],[]⟩:=by
 unfold argsOk;rw[signature?_of (id:="set_iterator.__next__") (n:=['_','_','t','x','e','n','_','_']) (o:=['r','o','t','a','r','e','t','i','_','t','e','s']) (by kernel_rfl) zbd];kernel_rfl
theorem yc3:entryFor table "set.__iter__"=some Builtin.«frozenset.__iter__» :=
 entryFor_alias (id':="frozenset.__iter__") (by kernel_rfl) (by first|rfl|decide +kernel|(unfold String.splitOn;simp +decide [String.splitOnAux])) (by decide +kernel) (by kernel_rfl)
noncomputable def IsSI(h:Heap)(I S:Addr)(first:Value)(i n ep:Nat):Prop:=∃o,h.get? I=some o/\o.cls = .type "set_iterator"/\o.data = .fields #[first,rawInt i,.ref S,rawInt n,rawInt ep]
theorem IsSI.at{h h':Heap}{I S:Addr}{first:Value}{i n ep:Nat}(x:IsSI h I S first i n ep)(e:∀o,h.get? I=some o->h'.get? I=some o):IsSI h' I S first i n ep:=let ⟨o,ho,r⟩:=x;⟨o,e _ ho,r⟩
noncomputable def zcp(h:Heap)(S:Addr)(es:Array (Int×Value))(ep:Nat)(t:SetTable):Prop:=∃o,h.get? S=some o/\o.data = .set es ep t/\t.fits es.size=true
theorem zcp.at{h h':Heap}{S:Addr}{es:Array (Int×Value)}{ep:Nat}{t:SetTable}(x:zcp h S es ep t)(e:∀o,h.get? S=some o->h'.get? S=some o):zcp h' S es ep t:=let ⟨o,ho,r⟩:=x;⟨o,e _ ho,r⟩
section
variable {prog:Program} {w:World} {A:Around} {E:Value->Shared->Prop} {s:Shared}
theorem IsSI.typeIs{I S:Addr}{first:Value}{i n ep:Nat}(x:IsSI s.heap I S first i n ep):s.TypeIs (.ref I) "set_iterator":=let ⟨o,ho,hc,_⟩:=x;⟨o,ho,hc⟩
noncomputable def ygr(prog:Program)(w:World)(s:Shared)(S:Addr)(slot i ep:Nat)(r:Option (Value×Nat)):Prop:=∀(A:Around) (E:Value->Shared->Prop) (Q:Option (Value×Nat)->Shared->Prop),Q r s->wpAny (model prog w) A (setNext S slot i ep) Q E s
theorem yfz{I S:Addr}{slot i ep nx:Nat}{es:Array (Int×Value)}{t:SetTable}{x:Value}{Q:Option Value->Shared->Prop}(hit:IsSI s.heap I S (rawInt slot) i es.size ep)(hs:zcp s.heap S es ep t)(hT:ygr prog w s S slot i ep (some (x,nx)))
  (hQ:∀h',IsSI h' I S (rawInt nx) (i+1) es.size ep->Heap.SameBut I s.heap h'->Q (some x) { s with heap:=h' }):wpAny (model prog w) A (pyNext (.ref I)) Q E s:=by
 obtain⟨o,ho,hc,hd⟩:=id hit;obtain⟨os,hos,hds,hf⟩:=id hs;unfold pyNext;refine xA1 (wpAny_attempt (xAV (name:=Str.ofString "__next__") hit.typeIs zat
  (xAX zat hit.typeIs za4 ?_ (zaW _))))
 unfold Builtin.«set_iterator.__next__»;refine xA1 (xBs (a:=(Value.ref I,[])) rfl ?_)
 try dsimp only
 refine xA1 (wpAny_fieldsOf ho hd ?_);simp only[rawInt];refine xA1 (wpAny_setEntries_of hos hds hf ?_);refine xB3 (λh=>absurd h (by simp)) (λ_=>?_);refine xA1 (hT _ _ _ ?_);dsimp only;refine xA1 (wpAny_setField ho hd (by simp) ?_);have h1:=xBg (Obj.mapFields (λvs=>vs.setIfInBounds 0 (Value.int nx 0))) ho (Obj.isFreed_of_fields (xB8 hd _));refine xA1 (wpAny_setField h1 (xB8 hd _) (by simp) ?_);refine xA3 ⟨x,rfl,xA3 (hQ _ ?_ ((xBu ..).trans (xBu ..)))⟩;exact⟨_,xBg _ h1 (Obj.isFreed_of_fields (xB8 (xB8 hd _) _)),(Obj.cls_mapFields ..).trans ((Obj.cls_mapFields ..).trans hc),by rw[xB8 (xB8 hd _)];simp[rawInt]⟩
theorem zfw{I:Addr}{Q:Option Value->Shared->Prop}(hh:A.handled=none){s1:Shared}(hQ:∀h' tk,(∀b o,s1.heap.get? b=some o->h'.get? b=some o)->Q none { s1 with heap:=h',toks:=tk }) :
  wpAny (model prog w) A.in1 (newExc (.type "StopIteration") [] >>= λe=>raiseNew e) (λfin s'=>∃v,fin=Fin.done (Flow.ret v)/\wpAny (model prog w) A (pure (some v)) Q E s')
   (λe s'=>wpAny (model prog w) A (do if (<-isInstance e (.type "StopIteration"))=true then pure none else throw e) Q E s') s1:=by
 refine xA1 ?_;simp only[newExc,newTuple];refine xA1 (xAN ?_ (by size_fits));refine xA1 (m:=firstArgMember _ _) (xBs (a:=Value.none) (by first|rfl|(simp only[firstArgMember];rfl)) ?_);refine xAN ?_ (by size_fits);simp only[raiseNew];refine xA1 (wpAny_handled ?_)
 first|rw[show A.in1.handled=none from hh]|rw[hh]
 refine xA1 (xA3 (wpAny_throw ?_));refine xA1 (wpAny_isInstance (T:="StopIteration") (b:=true) ⟨_,xA6 _ rfl,rfl⟩ isSubtype_stop ?_);exact xA3 (hQ _ _ λb o' e=>xA2 _ (xA2 _ e))
theorem yg1{I S:Addr}{slot i ep:Nat}{es:Array (Int×Value)}{t:SetTable}{Q:Option Value->Shared->Prop}(hh:A.handled=none)(hit:IsSI s.heap I S (rawInt slot) i es.size ep)(hs:zcp s.heap S es ep t)(hT:ygr prog w s S slot i ep none)
  (hQ:∀h' tk,Heap.ExtBut I s.heap h'->Q none { s with heap:=h',toks:=tk }):wpAny (model prog w) A (pyNext (.ref I)) Q E s:=by
 obtain⟨o,ho,hc,hd⟩:=id hit;obtain⟨os,hos,hds,hf⟩:=id hs;unfold pyNext;refine xA1 (wpAny_attempt (xAV (name:=Str.ofString "__next__") hit.typeIs zat
  (xAX zat hit.typeIs za4 ?_ (zaW _))))
 unfold Builtin.«set_iterator.__next__»;refine xA1 (xBs (a:=(Value.ref I,[])) rfl ?_)
 try dsimp only
 refine xA1 (wpAny_fieldsOf ho hd ?_);simp only[rawInt];refine xA1 (wpAny_setEntries_of hos hds hf ?_);refine xB3 (λh=>absurd h (by simp)) (λ_=>?_);refine xA1 (hT _ _ _ ?_);dsimp only;refine xA1 (wpAny_setField ho hd (by simp) ?_);refine zfw (I:=I) hh λh' tk k=>hQ h' tk λb o' hb e=>k b o' ((xAW _ _ (Ne.symm hb)).trans e)
theorem yhk{I S T:Addr}{i ep pl:Nat}{es:Array (Int×Value)}{t:SetTable}{places:Array Value}{kx:Int×Value}{tk:Tok}{Q:Option Value->Shared->Prop}(hit:IsSI s.heap I S (.ref T) i es.size ep)(hs:zcp s.heap S es ep t)(ht:s.heap.IsTuple T places)
  (hp:places[i]?=some (.int pl tk)) (hx:es[pl]?=some kx)
  (hQ:∀h',IsSI h' I S (.ref T) (i+1) es.size ep->Heap.SameBut I s.heap h'->Q (some kx.2) { s with heap:=h' }):wpAny (model prog w) A (pyNext (.ref I)) Q E s:=by
 obtain⟨o,ho,hc,hd⟩:=id hit;obtain⟨os,hos,hds,hf⟩:=id hs;obtain⟨ot,hot,hct,nt,hdt⟩:=id ht;unfold pyNext;refine xA1 (wpAny_attempt (xAV (name:=Str.ofString "__next__") hit.typeIs zat
  (xAX zat hit.typeIs za4 ?_ (zaW _))))
 unfold Builtin.«set_iterator.__next__»;refine xA1 (xBs (a:=(Value.ref I,[])) rfl ?_)
 try dsimp only
 refine xA1 (wpAny_fieldsOf ho hd ?_);simp only[rawInt];refine xA1 (wpAny_setEntries_of hos hds hf ?_);refine xB3 (λh=>absurd h (by simp)) (λ_=>?_);unfold seqItems?;refine xA1 (xA1 (wpAny_load hot ?_));rw[hdt];refine xA3 ?_;dsimp only;rw[xAs,hp];dsimp only;unfold setNextDrawn;refine xA1 (xA1 (wpAny_setState_of hos hds hf ?_));dsimp only;refine xB3 (λh=>absurd h (by simp)) (λ_=>?_);rw[xAs,hx];obtain⟨k0,x⟩:=kx;refine xA3 ?_;refine xA1 (wpAny_setField ho hd (by simp) ?_);refine xA3 ⟨x,rfl,xA3 (hQ _ ?_ (xBu ..))⟩;exact⟨_,xBg _ ho (Obj.isFreed_of_fields (xB8 hd _)),(Obj.cls_mapFields ..).trans hc,by rw[xB8 hd];simp[rawInt]⟩
theorem zhR{I S T:Addr}{i ep:Nat}{es:Array (Int×Value)}{t:SetTable}{places:Array Value}{Q:Option Value->Shared->Prop}(hh:A.handled=none)(hit:IsSI s.heap I S (.ref T) i es.size ep)(hs:zcp s.heap S es ep t)(ht:s.heap.IsTuple T places)
  (hp:places[i]?=none) (hQ:∀h' tk,Heap.ExtBut I s.heap h'->Q none { s with heap:=h',toks:=tk }):wpAny (model prog w) A (pyNext (.ref I)) Q E s:=by
 obtain⟨o,ho,hc,hd⟩:=id hit;obtain⟨os,hos,hds,hf⟩:=id hs;obtain⟨ot,hot,hct,nt,hdt⟩:=id ht;unfold pyNext;refine xA1 (wpAny_attempt (xAV (name:=Str.ofString "__next__") hit.typeIs zat
  (xAX zat hit.typeIs za4 ?_ (zaW _))))
 unfold Builtin.«set_iterator.__next__»;refine xA1 (xBs (a:=(Value.ref I,[])) rfl ?_)
 try dsimp only
 refine xA1 (wpAny_fieldsOf ho hd ?_);simp only[rawInt];refine xA1 (wpAny_setEntries_of hos hds hf ?_);refine xB3 (λh=>absurd h (by simp)) (λ_=>?_);unfold seqItems?;refine xA1 (xA1 (wpAny_load hot ?_));rw[hdt];refine xA3 ?_;dsimp only;rw[xAs,hp];dsimp only;refine xA1 (wpAny_setField ho hd (by simp) ?_);have h1:=xBg (Obj.mapFields (λvs=>vs.setIfInBounds 0 (Value.int 0 0))) ho (Obj.isFreed_of_fields (xB8 hd _));refine xA1 (wpAny_setField h1 (xB8 hd _) (by simp) ?_);refine zfw (I:=I) hh λh' tk k=>hQ h' tk λb o' hb e=>k b o' ((xAW _ _ (Ne.symm hb)).trans ((xAW _ _ (Ne.symm hb)).trans e))
theorem yc5{S:Addr}{es:Array (Int×Value)}{ep:Nat}{t:SetTable}(hs:zcp s.heap S es ep t)(hb:ybe w=true)(slot i:Nat):ygr prog w s S slot i ep (((pickOrder (w.params.setOrder S ep) es)[i]?).map λe=>(e.2,slot)):=by
 intro A E Q hQ;obtain⟨os,hos,hds,hf⟩:=id hs;unfold setNext setWalk setsByText;refine xA1 (wpAny_setState_of hos hds hf ?_);dsimp only;refine xA1 (xA1 (wpAny_askSetting (xA3 ?_)));refine xB3 (λ_=>?_) (λh=>absurd hb h);refine xB3 (λh=>absurd h (by simp)) (λ_=>?_);refine xA1 (xA1 (wpAny_setState_of hos hds hf ?_));dsimp only;refine xA1 (xA1 (wpAny_askSetting (xA3 ?_)));refine xB3 (λ_=>?_) (λh=>absurd hb h);refine xA1 (wpAny_askSetting ?_);exact xA3 (xA3 hQ)
theorem zcC{S:Addr}{es:Array (Int×Value)}{ep:Nat}{t:SetTable}(hs:zcp s.heap S es ep t)(hb:ybe w=false)(hl:t.led=true)(hp:t.plain=true\/es.size<=1)(slot i:Nat) :
  ygr prog w s S slot i ep (match es[SetTable.below t.place slot]?,t.place[SetTable.below t.place slot]? with|some (_,x),some j=>some (x,j+1)|_,_=>none):=by
 intro A E Q hQ;obtain⟨os,hos,hds,hf⟩:=id hs;unfold setNext setsByText;refine xA1 (wpAny_setState_of hos hds hf ?_);dsimp only;refine xA1 (xA1 (wpAny_askSetting (xA3 ?_)));refine xB3 (λh=>absurd (show ybe w=true from h) (by rw[hb];decide)) (λ_=>?_);refine xB3 (λh=>?_) (λ_=>?_)
 ·have h':(!t.plain&&decide (es.size>1))=true:=h;simp only[xAx,Bool.not_eq_true',xBm]at h';rcases hp with hp|hp
  ·rw[hp]at h';exact absurd h'.1 (by decide)
  ·lia
 refine xA1 ?_;show wpAny _ _ (if (!t.led&&!es.isEmpty)=true then unsupported "set:maker-not-led" else pure ()) _ _ _;refine xB3 (λh=>absurd h (by rw[hl];simp)) (λ_=>?_);refine xA3 ?_;exact xA3 hQ
end
end L2
end
section
-- text: ExtQ
namespace L2
open PySem PyProof.Rows
section
variable {prog:Program} {w:World} {A:Around} {E:Value->Shared->Prop} {s:Shared}
theorem ycc{α:Type}:∀(l:List α) (i:Nat) (h:i<l.length),(l[i]::l.eraseIdx i).Perm l
 | [],i,h=>absurd h (Nat.not_lt_zero _)
 |x::l,0,h=>List.Perm.refl _
 |x::l,i+1,h=>by
  show(l[i]'(by simpa using h)::x::l.eraseIdx i).Perm (x::l);exact(List.Perm.swap _ _ _).trans (List.Perm.cons _ (ycc l i (by simpa using h)))
theorem yfZ{α:Type}(f:Nat->Nat):∀(n k:Nat) (l:List α) (out:Array α),l.length=n->(pickOrder.go f n k l out).toList.Perm (out.toList++l)
 |0,k,l,out,h=>by
  have:l=[]:=List.length_eq_zero_iff.mp h;subst this;unfold pickOrder.go;rw[List.append_nil]
 |n+1,k,l,out,h=>by
  have hi:f k%l.length<l.length:=xAR _ (by lia);unfold pickOrder.go;rw[xA5 hi];dsimp only;have ih:=yfZ f n (k+1) (l.eraseIdx (f k%l.length)) (out.push l[f k%l.length]) (by rw[List.length_eraseIdx_of_lt hi];lia);refine ih.trans ?_;rw[Array.toList_push,xB5];exact List.Perm.append_left _ (ycc _ _ hi)
theorem zcF{α:Type}(f:Nat->Nat)(xs:Array α):(pickOrder f xs).toList.Perm xs.toList:=by
 have:=yfZ f xs.size 0 xs.toList #[] (by simp)
 simpa[pickOrder]using this
theorem ydj{src:Source}{n:Nat}{Q:Nat->Shared->Prop}{M:Model}(hn:n≠0)(h:∀x d',x<n->Q x { s with drawn:=d' }):wpAny M A (choose src n) Q E s:=λ_ _ _=>⟨hn,h _ _ (xAR _ (by lia))⟩
theorem yd3{α:Type}{M:Model}:∀(n:Nat) (xs:List α) (s:Shared) (Q:List α->Shared->Prop),xs.length=n->(∀r d',r.Perm xs->Q r { s with drawn:=d' })->wpAny M A (drawOrder n xs) Q E s
 |0,xs,s,Q,h,hQ=>by
  have:xs=[]:=List.length_eq_zero_iff.mp h;subst this;unfold drawOrder;exact xA3 (hQ [] s.drawn .nil)
 |n+1,xs,s,Q,h,hQ=>by
  cases xs with
  |nil=>cases h
  |cons y ys=>
   unfold drawOrder;refine xA1 (ydj (by simp) λi d' hi=>?_);rw[xA5 hi];dsimp only;refine xA1 (yd3 n _ _ _ (by rw[List.length_eraseIdx_of_lt hi];simp at h;simp;lia) λr d2 hr=>?_);exact xA3 (hQ _ d2 ((List.Perm.cons _ hr).trans (ycc _ _ hi)))
noncomputable abbrev GE:Array GenState->Array GenState->Prop:=λa b=>b=a
theorem ycm:Slot "set_iterator" "__iter__" "set_iterator.__iter__" :=
 .of (owner:="set_iterator") (n:="__iter__") (by rw[typeLookup_type,builtinLookup_eq_fast];kernel_rfl) (by decide +kernel) (by decide +kernel) (by decide +kernel)
  (by first|exact .inl (by decide +kernel)|exact .inr (by decide +kernel)) (by rw[isSubtype_type];kernel_rfl)
theorem yc1(a:Value):argsOk "set_iterator.__iter__" ⟨[a],[]⟩:=by
 unfold argsOk;rw[signature?_of (id:="set_iterator.__iter__") (n:=['_','_','r','e','t','i','_','_']) (o:=['r','o','t','a','r','e','t','i','_','t','e','s']) (by kernel_rfl) zbd];kernel_rfl
theorem ydp:entryFor table "set_iterator.__iter__"=some Builtin.«dict_keyiterator.__iter__» :=
 entryFor_alias (id':="dict_keyiterator.__iter__") (by kernel_rfl) (by first|rfl|decide +kernel|(unfold String.splitOn;simp +decide [String.splitOnAux])) (by decide +kernel) (by kernel_rfl)
theorem ycU{I S:Addr}{first:Value}{i n ep:Nat}{Q:Value->Shared->Prop}(hit:IsSI s.heap I S first i n ep)(h:Q (.ref I) s):wpAny (model prog w) A (pyIter (.ref I)) Q E s:=by
 refine wpAny_pyIter_slot hit.typeIs ycm (xAX ycm hit.typeIs ydp ?_ (yc1 _));show wpAny _ _ (ret (.ref I)) _ _ s;exact xA3 ⟨_,rfl,"set_iterator",_,hit.typeIs,zat.lookup,h⟩
theorem zfr{I S:Addr}{es:Array (Int×Value)}{ep:Nat}{t:SetTable}(hh:A.handled=none)(hne:S≠I)(hb:ybe w=true) :
  WalksS prog w A I [I,S] [I] GE es.size (λi v=>((pickOrder (w.params.setOrder S ep) es).toList.map (·.2))[i]?=some v) (λi s=>IsSI s.heap I S (rawInt ((0:Nat):Int)) i es.size ep/\zcp s.heap S es ep t) where
 sub:=λb hb=>by simp at hb;simp[hb]
 grefl:=λ_=>rfl
 gtrans:=λ_ _ _ h1 h2=>h2.trans h1
 frame:=λi s h' tk st _ hk=>⟨st.1.at λo e=>hk I (by simp) o e,st.2.at λo e=>hk S (by simp) o e⟩
 item:=λi s Q E hi st hQ=>by
  have hl:(pickOrder (w.params.setOrder S ep) es).size=es.size:=by rw[<-xAm,(zcF _ es).length_eq,xAm]
  have hx:(pickOrder (w.params.setOrder S ep) es)[i]?=some (pickOrder (w.params.setOrder S ep) es)[i]:=xAM (by lia);have hT:=yc5 (prog:=prog) st.2 hb 0 i;rw[hx]at hT;refine yfz st.1 st.2 hT λh' hit' hs'=>?_
  refine hQ _ _ ?_ ⟨hit',st.2.at λo e=>?_⟩ ⟨λb o hb e=>?_,rfl,rfl,rfl,xA4 _⟩
  ·rw[xA8,Array.getElem?_toList,hx];rfl
  ·exact hs'.extBut S o hne e
  ·exact hs'.extBut b o (λq=>hb (by simp[q])) e
 done:=λs Q E st hQ=>by
  have hl:(pickOrder (w.params.setOrder S ep) es).size=es.size:=by rw[<-xAm,(zcF _ es).length_eq,xAm]
  have hx:(pickOrder (w.params.setOrder S ep) es)[es.size]?=none:=Array.getElem?_eq_none (by lia);have hT:=yc5 (prog:=prog) st.2 hb 0 es.size;rw[hx]at hT;exact wpAny_with_toks (xA4 s.toks) (yg1 hh st.1 st.2 hT λh' tk k htk=>hQ _ ⟨λb o hb e=>k b o (λq=>hb (by simp[q])) e,rfl,rfl,rfl,htk⟩)
 self:=λi s Q E st h=>ycU st.1 h
noncomputable def zcl(place:Array Nat):Nat->Nat
 |0=>0
 |i+1=>place.getD i 0+1
theorem zcn{place:Array Nat}(h:Rise place):∀i,i<=place.size->SetTable.below place (zcl place i)=i
 |0,_=>by
  obtain⟨h1,h2,h3⟩:=zci h 0;show SetTable.below place 0=0;rcases xAZ (SetTable.below place 0) with c|c
  ·exact c
  ·exact absurd (h2 0 (by lia) c) (Nat.not_lt_zero _)
 |i+1,hi=>by
  have e:zcl place (i+1)=place[i]+1:=by show place.getD i 0+1=_;simp[Array.getD,show i<place.size by lia]
  obtain⟨h1,h2,h3⟩:=zci h (zcl place (i+1));rw[e]at h1 h2 h3 ⊢;generalize SetTable.below place (place[i]+1)=r at *;rcases Nat.lt_trichotomy r (i+1) with c|c|c
  ·have:=h3 i (by lia) (by lia);lia
  ·exact c
  ·have h4:=h2 (i+1) (by lia) c;have h5:=ycv h (show i<i+1 by lia) (by lia);lia
theorem ye9{I S:Addr}{es:Array (Int×Value)}{ep:Nat}{t:SetTable}(hh:A.handled=none)(hne:S≠I)(hb:ybe w=false)(hl:t.led=true)(hp:t.plain=true\/es.size<=1)(hr:Rise t.place)(hz:t.place.size=es.size) :
  WalksS prog w A I [I,S] [I] GE es.size (λi v=>(es.toList.map (·.2))[i]?=some v) (λi s=>IsSI s.heap I S (rawInt (zcl t.place i:Nat)) i es.size ep/\zcp s.heap S es ep t) where
 sub:=λb hb=>by simp at hb;simp[hb]
 grefl:=λ_=>rfl
 gtrans:=λ_ _ _ h1 h2=>h2.trans h1
 frame:=λi s h' tk st _ hk=>⟨st.1.at λo e=>hk I (by simp) o e,st.2.at λo e=>hk S (by simp) o e⟩
 item:=λi s Q E hi st hQ=>by
  have hT:=zcC (prog:=prog) st.2 hb hl hp (zcl t.place i) i;rw[zcn hr i (by lia),xAM hi,xAM (show i<t.place.size by lia)]at hT;refine yfz (nx:=zcl t.place (i+1)) (x:=es[i].2) st.1 st.2 ?_ λh' hit' hs'=>?_
  ·have e:zcl t.place (i+1)=t.place[i]+1:=by show t.place.getD i 0+1=_;simp[Array.getD,show i<t.place.size by lia]
   rw[e];exact hT
  refine hQ _ _ ?_ ⟨hit',st.2.at λo e=>?_⟩ ⟨λb o hb e=>?_,rfl,rfl,rfl,xA4 _⟩
  ·rw[xA8,Array.getElem?_toList,xAM hi];rfl
  ·exact hs'.extBut S o hne e
  ·exact hs'.extBut b o (λq=>hb (by simp[q])) e
 done:=λs Q E st hQ=>by
  have hT:=zcC (prog:=prog) st.2 hb hl hp (zcl t.place es.size) es.size;rw[zcn hr es.size (by lia),Array.getElem?_eq_none (xA4 _)]at hT;exact wpAny_with_toks (xA4 s.toks) (yg1 hh st.1 st.2 hT λh' tk k htk=>hQ _ ⟨λb o hb e=>k b o (λq=>hb (by simp[q])) e,rfl,rfl,rfl,htk⟩)
 self:=λi s Q E st h=>ycU st.1 h
theorem zfn{I S T:Addr}{es:Array (Int×Value)}{ep:Nat}{t:SetTable}{ps:List Nat}(hh:A.handled=none)(hne:S≠I)(hneT:T≠I)(hps:ps.Perm (List.range es.size)) :
  WalksS prog w A I [I,S,T] [I] GE es.size (λi v=>(ps.map λp=>(es.getD p (0,.none)).2)[i]?=some v) (λi s=>IsSI s.heap I S (.ref T) i es.size ep/\zcp s.heap S es ep t/\s.heap.IsTuple T (ps.map λ(p:Nat)=>rawInt p).toArray) where
 sub:=λb hb=>by simp at hb;simp[hb]
 grefl:=λ_=>rfl
 gtrans:=λ_ _ _ h1 h2=>h2.trans h1
 frame:=λi s h' tk st _ hk=>⟨st.1.at λo e=>hk I (by simp) o e,st.2.1.at λo e=>hk S (by simp) o e,st.2.2.at λo e=>hk T (by simp) o e⟩
 item:=λi s Q E hi st hQ=>by
  have hl:ps.length=es.size:=by rw[hps.length_eq,xAr]
  have hm:∀p∈ps,p<es.size:=λp hp=>xAw.mp (hps.mem_iff.mp hp)
  have hpi:ps[i]'(by lia)<es.size:=hm _ (xBp _);refine yhk (pl:=ps[i]'(by lia)) (kx:=es[ps[i]'(by lia)]) (tk:=0) st.1 st.2.1 st.2.2 ?_ (xAM hpi) λh' hit' hs'=>?_
  ·rw[List.getElem?_toArray,xA8,xA5 (show i<ps.length by lia)];rfl
  refine hQ _ _ ?_ ⟨hit',st.2.1.at λo e=>hs'.extBut S o hne e,st.2.2.at λo e=>hs'.extBut T o hneT e⟩ ⟨λb o hb e=>hs'.extBut b o (λq=>hb (by simp[q])) e,rfl,rfl,rfl,xA4 _⟩;rw[xA8,xA5 (show i<ps.length by lia)];simp[Array.getD,hpi]
 done:=λs Q E st hQ=>by
  have hl:ps.length=es.size:=by rw[hps.length_eq,xAr]
  exact wpAny_with_toks (xA4 s.toks) (zhR hh st.1 st.2.1 st.2.2 (by rw[List.getElem?_toArray,List.getElem?_eq_none (by simp;lia)]) λh' tk k htk=>hQ _ ⟨λb o hb e=>k b o (λq=>hb (by simp[q])) e,rfl,rfl,rfl,htk⟩)
 self:=λi s Q E st h=>ycU st.1 h
theorem zfl{es:Array (Int×Value)}{ps:List Nat}(hps:ps.Perm (List.range es.size)):(ps.map λp=>(es.getD p (0,.none)).2).Perm (es.toList.map (·.2)):=by
 refine(hps.map _).trans ?_;have e:(List.range es.size).map (λp=>(es.getD p (0,Value.none)).2)=es.toList.map (·.2):=by
  apply xAP
  ·simp
  ·intro i h1 h2;simp at h1;simp[Array.getD,h1]
 rw[e]
noncomputable def yhZ(prog:Program)(w:World)(S:Addr)(es:Array (Int×Value))(s0 s:Shared)(I:Addr):Prop :=
 ∃(vs:List Value) (fp:List Addr) (St:Nat->Shared->Prop),vs.Perm (es.toList.map (·.2))/\(∀A:Around,A.handled=none->WalksS prog w A I fp [I] GE es.size (λi v=>vs[i]?=some v) St)/\St 0 s/\(∀b∈fp,b<s.heap.objs.size)/\I∈fp/\s.TypeIs (.ref I) "set_iterator"/\
  (∀b o,s0.heap.get? b=some o->s.heap.get? b=some o)/\s0.heap.objs.size<=I/\s.gens=s0.gens/\s.os=s0.os/\s0.toks<=s.toks/\∀b∈fp,b=S\/s0.heap.objs.size<=b
theorem yff{xs:Array Nat}(h:xs.size<=1):Rise xs:=by
 unfold Rise;rw[<-xAm]at h
 match xs.toList,h with
 | [],_=>exact .nil
 | [x],_=>exact List.pairwise_singleton _ _
theorem zgE{S:Addr}{o:Obj}{es:Array (Int×Value)}{ep:Nat}{t:SetTable}{Q:Value->Shared->Prop}(ho:s.heap.get? S=some o)(hc:o.cls = .type "set")(hd:o.data = .set es ep t)(hf:t.fits es.size=true)(hb:es.size<scanBound)(hG:TabG (!ybe w) t)
  (hQ:∀I s',yhZ prog w S es s s' I->Q (.ref I) s'):wpAny (model prog w) A (pyIter (.ref S)) Q E s:=by
 have hT:s.TypeIs (.ref S) "set":=⟨o,ho,hc⟩
 have hSlt:=xAd ho;have hz:t.place.size=es.size:=by
  have:=hf;unfold SetTable.fits at this;simp only[xAx,beq_iff_eq]at this;exact this.1
 refine wpAny_pyIter_slot hT F.slot_set_iter (xAX F.slot_set_iter hT yc3 ?_ (F.args_set_iter_1 _));unfold Builtin.«frozenset.__iter__» Builtin.Frozenset.slot0 Builtin.Frozenset.sizeOf;refine xA1 (xBs (a:=S) rfl ?_);refine xA1 (xA1 (wpAny_setEntries_of ho hd hf (xA3 ?_)));unfold setDrawn setsByText;refine xA1 (xA1 (wpAny_setState_of ho hd hf ?_));dsimp only;refine xA1 (xA1 (wpAny_askSetting (xA3 (xA3 ?_))));refine xB3 (λh=>?_) (λh=>?_)
 ·have h':(!ybe w&&(!t.plain&&decide (es.size>1)))=true:=h;refine xA1 (yd3 _ _ _ _ xAr λps d' hps=>?_);have hlen:ps.length=es.size:=by rw[hps.length_eq,xAr]
  refine xA1 (wpAny_newTuple ?_ (by rw[xA0,hlen];exact fits_of_scanBound hb));have o1:(s.heap.push { cls:=.type "tuple",data:=.seq (ps.map λ(p:Nat)=>rawInt p).toArray }).get? S=some o:=xA2 _ ho;unfold setEpoch;refine xA1 (xA1 (wpAny_setState_of o1 hd hf (xA3 ?_)));unfold newFields;refine xA1 (xAN ?_ (by size_fits));refine xA3 ⟨_,rfl,"set_iterator",_,⟨_,xA6 _ rfl,rfl⟩,zat.lookup,hQ _ _ ?_⟩;have hI:(s.heap.push { cls:=.type "tuple",data:=.seq (ps.map λ(p:Nat)=>rawInt p).toArray }).objs.size=s.heap.objs.size+1:=xB6 _ _;have e2:∀b o',s.heap.get? b=some o'->((s.heap.push { cls:=.type "tuple",data:=.seq (ps.map λ(p:Nat)=>rawInt p).toArray }).push { cls:=.type "set_iterator",data:=.fields #[.ref s.heap.objs.size,rawInt 0,.ref S,rawInt es.size,rawInt ep] }).get? b=some o':=λb o' e=>xA2 _ (xA2 _ e)
  refine⟨_,[(s.heap.push { cls:=.type "tuple",data:=.seq (ps.map λ(p:Nat)=>rawInt p).toArray }).objs.size,S,s.heap.objs.size],_,zfl hps,λA hh=>zfn (t:=t) (ep:=ep) hh ?_ ?_ hps,⟨⟨_,xA6 _ rfl,rfl,rfl⟩,⟨o,e2 S o ho,hd,hf⟩,⟨_,xA2 _ (xA6 _ rfl),rfl,0,rfl⟩⟩,?_,by simp,⟨_,xA6 _ rfl,rfl⟩,e2,?_,rfl,rfl,xA4 _,?_⟩
  ·rw[hI];exact xAF (Nat.lt_succ_of_lt hSlt)
  ·rw[hI];exact xAF (Nat.lt_succ_self _)
  ·intro b hb;simp only[xA9,xAn,xB0]at hb;show b<((s.heap.push _).push _).objs.size;rw[xB6,hI];rcases hb with rfl|rfl|rfl
   ·rw[hI];exact Nat.lt_succ_self _
   ·exact Nat.lt_succ_of_lt (Nat.lt_succ_of_lt hSlt)
   ·exact Nat.lt_succ_of_lt (Nat.lt_succ_self _)
  ·show s.heap.objs.size<=(s.heap.push _).objs.size;rw[hI];exact Nat.le_succ _
  ·intro b hb;simp only[xA9,xAn,xB0]at hb;rcases hb with rfl|rfl|rfl
   ·right;rw[hI];exact Nat.le_succ _
   ·exact .inl rfl
   ·exact .inr (xA4 _)
 ·have h':¬ (!ybe w&&(!t.plain&&decide (es.size>1)))=true:=h;refine xA1 (xA3 ?_);unfold setEpoch;refine xA1 (xA1 (wpAny_setState_of ho hd hf (xA3 ?_)));unfold newFields;refine xA1 (xAN ?_ (by size_fits));refine xA3 ⟨_,rfl,"set_iterator",_,⟨_,xA6 _ rfl,rfl⟩,zat.lookup,hQ _ _ ?_⟩;have e2:∀b o',s.heap.get? b=some o'->(s.heap.push { cls:=.type "set_iterator",data:=.fields #[rawInt 0,rawInt 0,.ref S,rawInt es.size,rawInt ep] }).get? b=some o':=λb o' e=>xA2 _ e
  have hin:∀b∈[s.heap.objs.size,S],b<(s.heap.push { cls:=.type "set_iterator",data:=.fields #[rawInt 0,rawInt 0,.ref S,rawInt es.size,rawInt ep] }).objs.size:=by
   intro b hb;simp only[xA9,xAn,xB0]at hb;rw[xB6];rcases hb with rfl|rfl
   ·exact Nat.lt_succ_self _
   ·exact Nat.lt_succ_of_lt hSlt
  have hin2:∀b∈[s.heap.objs.size,S],b=S\/s.heap.objs.size<=b:=by
   intro b hb;simp only[xA9,xAn,xB0]at hb;rcases hb with rfl|rfl
   ·exact .inr (xA4 _)
   ·exact .inl rfl
  by_cases hbt:ybe w=true
  ·exact⟨_,[s.heap.objs.size,S],_,(zcF (w.params.setOrder S ep) es).map _,λA hh=>zfr (t:=t) (ep:=ep) hh (xAF hSlt) hbt,⟨⟨_,xA6 _ rfl,rfl,rfl⟩,⟨o,e2 S o ho,hd,hf⟩⟩,hin,by simp,⟨_,xA6 _ rfl,rfl⟩,e2,xA4 _,rfl,rfl,xA4 _,hin2⟩
  ·have hbf:ybe w=false:=by simpa using hbt
   have hled:t.led=true:=by rw[hG.led,hbf];rfl
   have hp:t.plain=true\/es.size<=1:=by
    rw[hbf]at h';cases hpl:t.plain
    ·rw[hpl]at h';simp at h';exact .inr h'
    ·exact .inl rfl
   have hr:Rise t.place:=by
    rcases hp with hp|hp
    ·exact hG.rise hp
    ·exact yff (by lia)
   exact⟨_,[s.heap.objs.size,S],_,List.Perm.refl _,λA hh=>ye9 (t:=t) (ep:=ep) hh (xAF hSlt) hbf hled hp hr hz,⟨⟨_,xA6 _ rfl,rfl,rfl⟩,⟨o,e2 S o ho,hd,hf⟩⟩,hin,by simp,⟨_,xA6 _ rfl,rfl⟩,e2,xA4 _,rfl,rfl,xA4 _,hin2⟩
end
end L2
end
section
-- text: ExtR
namespace L2
open PySem PyProof.Rows
theorem yd2:typeLookup (.type "set") "__len__"=pure (some (.builtin "set.__len__")):=by rw[typeLookup_type,builtinLookup_eq_fast];kernel_rfl
section
variable {prog:Program} {w:World} {A:Around} {E:Value->Shared->Prop} {s:Shared}
structure Left(s s':Shared):Prop where
 heap:∀b o,s.heap.get? b=some o->s'.heap.get? b=some o
 gens:s'.gens=s.gens
 os:s'.os=s.os
 toks:s.toks<=s'.toks
 size:s.heap.objs.size<=s'.heap.objs.size
theorem ygn{vs:List Value}{n:Nat}{acc:Array Value}(hn:vs.length=n)(h:ItemsOf (λi v=>vs[i]?=some v) acc n):acc.toList=vs:=by
 refine List.ext_getElem? λi=>?_
 by_cases c:i<n
 ·have h1:acc[i]?=some (acc[i]'(by rw[h.1];exact c)):=xAM _;rw[Array.getElem?_toList,h1];exact(h.2 i _ h1).symm
 ·rw[Array.getElem?_toList,Array.getElem?_eq_none (by rw[h.1];lia),List.getElem?_eq_none (by lia)]
theorem zef{S:Addr}{o:Obj}{es:Array (Int×Value)}{ep:Nat}{t:SetTable}{Q:List Value->Shared->Prop}(hh:A.handled=none)(ho:s.heap.get? S=some o)(hc:o.cls = .type "set")(hd:o.data = .set es ep t)(hf:t.fits es.size=true)(hb:es.size<scanBound)(hG:TabG (!ybe w) t)
  (hQ:∀vs s',vs.Perm (es.toList.map (·.2))->Left s s'->Q vs s'):wpAny (model prog w) A (collect (.ref S)) Q E s:=by
 have hSlt:=xAd ho;unfold collect;refine xA1 (wpAny_runValue (codeAny_builtin F.entry_proto_collect ?_));rw[xBr F.plain_proto_collect _];show wpAny _ A.in1 (newList [] >>= λl=>again (.builtin "list.__iadd__" ⟨[l,.ref S],[]⟩)) _ _ s;refine xA1 (xAN ?_);refine xA3 ⟨plainId_quiet F.plain_list_iadd _,codeAny_builtin F.entry_list_iadd ?_⟩;rw[xBr F.plain_list_iadd _];have ho1:(s.heap.push { cls:=.type "list",data:=.seq ([]:List Value).toArray }).get? S=some o:=xA2 _ ho;have hS1:(s.heap.push { cls:=.type "list",data:=.seq ([]:List Value).toArray }).get? s.heap.objs.size=some { cls:=.type "list",data:=.seq ([]:List Value).toArray }:=xA6 _ rfl;have h1:Builtin.List.listSameRef (.ref s.heap.objs.size) (.ref S)=false:=by simp[Builtin.List.listSameRef];exact Nat.ne_of_gt hSlt
 show wpAny _ A.in1 (Builtin.List.listExtendWith (.ref s.heap.objs.size) (.ref S) (.ref s.heap.objs.size)) _ _ _;unfold Builtin.List.listExtendWith;refine xA1 (wpAny_typeOf (T:="set") ⟨o,ho1,hc⟩ ?_);rw[if_neg (by rw[h1];decide)];refine xA1 (zgE ho1 hc hd hf hb hG λI s2 ⟨vs,fp,St,hp,hW,hst,hfp,hI,hT,hk,hge,hg,hos,htk,hfs⟩=>?_);have ho2:=hk S o ho1;have hS2:=hk _ _ hS1;refine xA1 (xBf ?_);unfold Builtin.List.listLengthHint;refine xA1 (wpAny_specialOf (T:="set") ⟨o,ho2,hc⟩ yd2 ?_)
 (generalize hid:("set.__len__":String)=id0;(fail_if_success (clear hid id0));wp_delta;rw[show splitId id0=some ("set","__len__") from by subst hid;decide +kernel];subst hid)
 refine xA1 (wpAny_isInstance (T:="set") (b:=true) ⟨o,ho2,hc⟩ (by rw[isSubtype_type];kernel_rfl) ?_);refine xB3 (λh=>absurd h (by decide)) (λ_=>?_);refine xB3 (λ_=>?_) (λh=>(h (by decide +kernel)).elim);refine xA1 (wpAny_typeOf (T:="set") ⟨o,ho2,hc⟩ ?_);refine xA3 ?_;refine xB3 (λ_=>?_) (λh=>(h (by decide +kernel)).elim);refine xA1 (xB9 ?_);refine xA1 ?_;show wpAny _ A.in1 (updateSeq s.heap.objs.size (·.push .none) >>= λ_=>updateSeq s.heap.objs.size (·.pop)) _ _ _;refine xA1 (wpAny_updateSeq hS2 rfl ?_);have hS3:=xBg (Obj.mapSeq (·.push Value.none)) hS2 rfl;refine wpAny_updateSeq hS3 rfl ?_;have hS4:=xBg (Obj.mapSeq (·.pop)) hS3 rfl;have hlt:s.heap.objs.size<I:=by
  have:=hge;rw[show(s.heap.push { cls:=.type "list",data:=.seq ([]:List Value).toArray }).objs.size=s.heap.objs.size+1 from xB6 _ _]at this;exact this
 have W:=hW A.in1 hh;have hSf:s.heap.objs.size∉fp:=λhm=>by
  rcases hfs _ hm with h|h
  ·exact absurd h (Nat.ne_of_gt hSlt)
  ·rw[show(s.heap.push { cls:=.type "list",data:=.seq ([]:List Value).toArray }).objs.size=s.heap.objs.size+1 from xB6 _ _]at h;exact absurd h (Nat.not_succ_le_self _)
 have oth:∀b o',b≠s.heap.objs.size->s2.heap.get? b=some o'->((s2.heap.update s.heap.objs.size (Obj.mapSeq (·.push Value.none))).update s.heap.objs.size (Obj.mapSeq (·.pop))).get? b=some o' :=
  λb o' hb e=>(xAW _ _ (Ne.symm hb)).trans ((xAW _ _ (Ne.symm hb)).trans e)
 have hlen:vs.length=es.size:=by rw[hp.length_eq,xA0,xAm]
 refine xA3 ⟨plainId_quiet F.plain_extend_loop _,codeAny_extend_loopS W (fits_of_scanBound hb) _ hSf _ es.size 0 _ _ _ rfl (xB7 _)
  (W.frame 0 s2 _ s2.toks hst (xA4 _) λb hb o e=>oth b o (λh=>hSf (h ▸ hb)) e) hS4 (ItemsOf.nil _) λs' acc' c' hm hS' hacc=>?_⟩
 show wpAny _ A (load s.heap.objs.size >>= _) _ _ s';refine xA1 (wpAny_load hS' ?_);refine xA3 ?_;rw[ygn hlen hacc];refine hQ vs s' hp ⟨λb o' e=>?_,?_,?_,?_,Nat.le_of_lt (xAd hS')⟩
 ·have hb:=xAd e;refine hm.heap b o' ?_ (oth b o' (xAF hb) (hk b o' (xA2 _ e)));simp only[xA9,xAn,xB0,not_or];exact⟨xAF hb,xAF (Nat.lt_trans hb hlt)⟩
 ·exact hm.gens.trans hg
 ·exact hm.os.trans hos
 ·exact xAB htk hm.toks
end
end L2
end
section
-- text: ExtS
namespace L2
open PySem PyProof.Rows
theorem ycX{α:Type}[BEq α][LawfulBEq α]:∀ {σ τ:List α},σ.Nodup->(∀x∈σ,x∈τ)->σ.length<=τ.length
 | [],_,_,_=>xB7 _
 |x::σ,τ,h,hs=>by
  have hx:x∈τ:=hs x xAb;have h2:=xBe.mp h;have:=ycX (σ:=σ) (τ:=τ.erase x) h2.2 λy hy=>(List.mem_erase_of_ne (λe=>h2.1 (by rw[<-e];exact hy))).mpr (hs y (xA7 _ hy))
  rw[List.length_erase_of_mem hx]at this;have hp:0 < τ.length:=List.length_pos_of_mem hx;simp only[xAO];lia
theorem zde{α:Type}[BEq α][LawfulBEq α]:∀ {σ τ:List α},σ.Nodup->(∀x∈σ,x∈τ)->τ.length<=σ.length->σ.Perm τ
 | [],τ,_,_,hl=>by
  have:τ=[]:=List.length_eq_zero_iff.mp (by simpa using hl);rw[this]
 |x::σ,τ,h,hs,hl=>by
  have hx:x∈τ:=hs x xAb;have h2:=xBe.mp h;have ih:=zde (σ:=σ) (τ:=τ.erase x) h2.2 (λy hy=>(List.mem_erase_of_ne (λe=>h2.1 (by rw[<-e];exact hy))).mpr (hs y (xA7 _ hy))) (by rw[List.length_erase_of_mem hx];simp at hl;lia);exact(List.Perm.cons x ih).trans (List.perm_cons_erase hx).symm
theorem zbl(val:Nat->Int):∀i,(firstMet val i).Nodup
 |0=>List.nodup_nil
 |i+1=>by
  rw[firstMet_succ];unfold step_dedup;split
  ·exact zbl val i
  ·rename_i hn;refine List.nodup_append.mpr ⟨zbl val i,by simp,λa ha b hb=>?_⟩;rw[xAA]at hb;intro e;exact hn (List.any_eq_true.mpr ⟨a,ha,by rw[e,hb];exact xBo _⟩)
theorem zbB(ns:List Int)(k:Int):k∈firstMet (λi=>ns.getD i 0) ns.length↔k∈ns:=by
 have h:=firstMet_any (λi=>ns.getD i 0) ns.length k;have e:(List.range ns.length).map (λi=>ns.getD i 0)=ns:=by
  apply xAP
  ·simp
  ·intro i h1 h2;simp[List.getD,h2]
 rw[e]at h;have c:∀l:List Int,l.any (·==k)=true↔k∈l:=λl=>by
  rw[List.any_eq_true];exact⟨λ⟨x,hx,q⟩=>by rw[<-eq_of_beq q];exact hx,λhk=>⟨k,hk,xBo _⟩⟩
 rw[<-c,<-c,h]
section
variable {prog:Program} {w:World} {A:Around} {E:Value->Shared->Prop} {s:Shared}
theorem zc4:∀ {vs:List Value},(∀v∈vs,∃k t,v = .int k t)->∃ns,IntsAre vs ns/\∀k,k∈ns↔∃v∈vs,∃t,v = .int k t
 | [],_=>⟨[],.nil,λk=>⟨λh=>(nomatch h),λ⟨v,h,_⟩=>(nomatch h)⟩⟩
 |v::vs,h=>by
  obtain⟨ns,hn,hm⟩:=zc4 λv' hv=>h v' (xA7 _ hv)
  obtain⟨k,t,rfl⟩:=h v xAb;refine⟨k::ns,.cons k t hn,λk'=>⟨λhk=>?_,λ⟨v',hv,t',e⟩=>?_⟩⟩
  ·rcases xA9.mp hk with rfl|hk
   ·exact⟨_,xAb,t,rfl⟩
   ·obtain⟨v',hv,t',e⟩:=(hm k').mp hk;exact⟨v',xA7 _ hv,t',e⟩
  ·rcases xA9.mp hv with rfl|hv
   ·cases e;exact xAb
   ·exact xA7 _ ((hm k').mpr ⟨v',hv,t',e⟩)
theorem zff{S:Addr}{Sm:Int->Bool}{n:Nat}{Q:Value->Shared->Prop}(hh:A.handled=none)(hS:SetG w prog s.heap S Sm n)(h64:n<64)
  (hQ:∀(h':Heap) (d':Drawn) (tk:Nat) (L:Addr) (ns':List Int) (out:Array Value) (e:Nat),IntsAre out.toList ns'->ns'.length=n->(∀k,k∈ns'↔Sm k=true)->ns'.Pairwise (·<=·)->(∀b o,s.heap.get? b=some o->h'.get? b=some o)->s.heap.objs.size<=L->
   h'.get? L=some (seqObj "list" out e)->Q (.ref L) { heap:=h',gens:=s.gens,drawn:=d',toks:=tk,os:=s.os }) :
  wpAny (model prog w) A (call (.builtin "sorted") [.ref S]) Q E s:=by
 obtain⟨o,es,ep,t,ho,hex,hd,hel,hmem,hb,hf,hn,hG⟩:=hS;refine Calls.call_function_entry kind_sorted plain_sorted entry_sorted (args_sorted1 _) ?_;unfold Builtin.«sorted»;refine xA1 (m:=checkCount "sorted" 1 1 _) (xA3 ?_);refine xA1 (zef (by simp[hh]) ho hex.1 hd hf hb hG λvs s2 hp hL=>?_);have hall:∀v∈vs,∃k t,v = .int k t:=λv hv=>by
  obtain⟨e,he,rfl⟩:=xAg.mp (hp.mem_iff.mp hv);obtain⟨⟨k,hk,_⟩,_⟩:=hel e he;obtain⟨t,ht⟩:=Value.isInt_shape hk;exact⟨k,t,ht⟩
 obtain⟨ns,hI,hm⟩:=zc4 hall;have hl:vs.length=n:=by rw[hp.length_eq,xA0,xAm,hn]
 refine xA1 (wpAny_newList ?_);have hoL:(s2.heap.push (seqObj "list" vs.toArray 0)).get? s2.heap.objs.size=some (seqObj "list" vs.toArray 0):=xA6 _ rfl;refine xA1 (xBf (xAX slot_list_sort ⟨_,hoL,rfl⟩ entry_list_sort (list_sort_tree hoL hI (by lia) λout ns' a1 a2 a3=>⟨_,rfl,?_⟩) (args_list_sort _)));refine xA3 ⟨_,rfl,?_⟩;obtain⟨e,he⟩:=sortedHeap_at (out:=out) hoL;have hle:=hL.size;have hk:=hL.heap;have hg:=hL.gens;have hos:=hL.os;obtain⟨h2,g2,d2,t2,o2⟩:=s2;dsimp only at hg hos;subst hg;subst hos;refine hQ _ _ _ _ ns' out e a1 ?_ ?_ a3 (λb ob eb=>?_) hle he
 ·rw[a2.length_eq,<-IntsAre.length hI];exact hl
 ·intro k;rw[a2.mem_iff,hm,hmem];constructor
  ·rintro⟨v,hv,t',rfl⟩;obtain⟨e',he',q⟩:=xAg.mp (hp.mem_iff.mp hv);exact⟨e',he',by rw[q];exact intKind_is _ _ _ _⟩
  ·rintro⟨e',he',q⟩;obtain⟨t',ht⟩:=Value.isInt_shape q;exact⟨e'.2,hp.mem_iff.mpr (List.mem_map_of_mem he'),t',ht⟩
 ·have hlt:=xAd (hk b ob eb);rw[sortedHeap_old (xAF hlt) (by rw[show(h2.push (seqObj "list" vs.toArray 0)).objs.size=h2.objs.size+1 from xB6 _ _];exact Nat.lt_succ_of_lt hlt)];exact xA2 _ (hk b ob eb)
end
end L2
end
section
-- text: ExtT
namespace L2
open PySem PyProof.Rows
theorem zeG:bootBuiltins "set"=some (.type "set"):=by decide +kernel
theorem ybi:bootBuiltins "sorted"=some (.builtin "sorted"):=by decide +kernel
section
variable {X:Cx}
theorem Inv.redraw{pins:List (Addr×Obj)}{σ:St}{H:Hp}{s s':Shared}(I:Inv X pins σ H s)(h1:s'.heap=s.heap)(h2:s'.gens=s.gens)(h3:s'.os=s.os):Inv X pins σ H s' :=
 ⟨I.ok,by rw[h3];exact I.os,by rw[h2];exact I.bare,by rw[h1];exact I.base,by rw[h1];exact I.loc,by rw[h1];exact I.cell,I.free,I.freeC,by rw[h1];exact I.pin,by rw[h1];exact I.hok,I.len⟩
theorem Inv.more{pins:List (Addr×Obj)}{σ:St}{H:Hp}{s:Shared}{h':Heap}{tk:Nat}(I:Inv X pins σ H s)(k:∀b o,s.heap.get? b=some o->h'.get? b=some o):Inv X pins σ H { s with heap:=h',toks:=tk } :=
 I.turnedL (fp:=[]) (λb hb=>nomatch hb) λb o _ e=>k b o e
noncomputable def ygJ(K:PySem.W.Frag)(te:TE):TE:=λσ H Q=>te σ H λx H1=>∃(a:Addr) (ns:List Int),x = .ref a/\SqL K H1 a (ns.map V.int)/\ns.length<4000/\(∀ks:List Int,ks.Nodup->(∀k∈ks,k∈ns)->ks.length<64)/\
 ∀(l:Addr) (ns':List Int),H1 l=none->ns'.Pairwise (· < ·)->(∀k,k∈ns'↔k∈ns)->Q (.ref l) (upd H1 l (.lst (ns'.map V.int)))
theorem yfh{e:Expr}{te:TE}{p1 p2 pos pos2:Pos}(hc:X.calm=true)(hg1:Gl X "sorted")(hm1:X.mg "sorted"=none)(hg2:Gl X "set")(hm2:X.mg "set"=none)(he:PE X e te)
  (hs:starEach [e] X.env=[(false,eval e X.env)]:=by rfl) (hs2:starEach [.Call (.Name "set" p2) [e] [] pos2] X.env=[(false,eval (.Call (.Name "set" p2) [e] [] pos2) X.env)]:=by rfl) :
  PE X (.Call (.Name "sorted" p1) [.Call (.Name "set" p2) [e] [] pos2] [] pos) (ygJ X.K te):=by
 intro pins s σ H Q I h;refine wpAny_Call_Name_kw (ybF I hg1 hm1 ybi ?_ (by decide) (by decide));refine PyProof.Rows.callWith_builtin1 ?_ hs2 rfl;rw[hs2];show wpAny _ _ (spliced ((false,eval (.Call (.Name "set" p2) [e] [] pos2) X.env)::[])) _ _ s;refine Calls.spliced_cons ?_;refine wpAny_Call_Name_kw (ybF I hg2 hm2 zeG ?_ (by decide) (by decide));refine xAY ?_ hs rfl;rw[hs];show wpAny _ _ (spliced ((false,eval e X.env)::[])) _ _ s;refine Calls.spliced_cons (thn (he pins s σ H _ I h) λu s1 ⟨x,H1,I1,r1,a,ns,ex,ha,hl,h64,q⟩=>?_);subst ex;cases r1;refine Calls.spliced_nil ?_;obtain⟨its,r2,p2,z2⟩:=I1.list ha;have hlen:=r2.length;rw[xA0]at hlen;have hh:=I1.ok.hd hc;refine zfb hh p2.isList (by simpa using zcx r2) (by rw[xAa];unfold scanBound;lia) λh2 tk2 hS hk=>?_
 refine Calls.spliced_nil ?_;have I2:Inv X pins σ H1 { s1 with heap:=h2,toks:=tk2 }:=I1.more hk;have hsz:its.toArray.size=ns.length:=by rw[xAa,hlen]
 rw[hsz]at hS;have hfm:=zbl (λi=>ns.getD i 0) ns.length;refine zff (s:={ s1 with heap:=h2,toks:=tk2 }) hh hS (h64 _ hfm λk hk=>(zbB ns k).mp hk) λh3 d3 tk3 L ns' out e3 b1 b2 b3 b4 b5 b6 b7=>?_
 have hmem:∀k,k∈ns'↔k∈firstMet (λi=>ns.getD i 0) ns.length:=λk=>by
  rw[b3];constructor
  ·intro h;obtain⟨y,hy,q⟩:=List.any_eq_true.mp h;rw[<-eq_of_beq q];exact hy
  ·intro h;exact List.any_eq_true.mpr ⟨k,h,xBo _⟩
 have hnd:ns'.Nodup:=(zde hfm (λk hk=>(hmem k).mpr hk) (by rw[b2];exact xA4 _)).nodup_iff.mp hfm;have hlt:ns'.Pairwise (· < ·):=by
  refine List.Pairwise.imp₂ (λa b h1 h2=>?_) b4 hnd;lia
 have r3:Vals (ns'.map V.int) out.toList:=ybB b1;have I3:Inv X pins σ (upd H1 L (.lst (ns'.map V.int))) { s1 with heap:=h3,toks:=tk3 }:=I2.laid (a:=L) (t':=tk3) (o:=.lst (ns'.map V.int)) b5 b6 ⟨?_,out.toList,e3,r3,?_⟩
 ·refine⟨.ref L,_,I3.redraw rfl rfl rfl,rfl,q L ns' (I2.hok.fresh b6) hlt λk=>(hmem k).trans (zbB ns k)⟩
 ·rw[xA0,b2];have:=h64 _ hfm λk hk=>(zbB ns k).mp hk
  have:=sizeLine_eq;lia
 ·rw[b7]
end
end L2
end
section
-- text: ExtU
namespace L2
open PySem PySem.Spec PyProof.Rows
section
variable {X:Cx}
noncomputable def yig(K:PySem.W.Frag):List V->Hp->VK->Prop:=λvs H Q=>∃(a:Addr) (ns:List Int),vs=[.ref a]/\SqL K H a (ns.map V.int)/\0<ns.length/\∀M,M∈ns->(∀a∈ns,a<=M)->Q (.int M) H
theorem yft(hc:X.calm=true):zbR X (.builtin "max") (yig X.K):=by
 intro pins s σ H xs us Q I r h;obtain⟨a,ns,rfl,ha,hl,q⟩:=h;obtain⟨u,rfl,rx⟩:=ycg r;cases rx;obtain⟨its,r1,p1,z1⟩:=I.list ha;have hi:IntsAre its ns:=zcx r1;have hlist:=p1.isList;obtain⟨ys,e⟩:=hi.allInts.items;have hns:ns=ys.toList.map (·.1):=by rw[<-hi.numsOf,<-nums_intItems,<-e]
 have hsz:0<ys.size:=by
  have h3:=hl;rw[hns,xA0,xAm]at h3;exact h3
 rw[e]at hlist;refine max_intList (I.ok.hd hc) hlist hsz λv h' tk hv hk=>?_
 obtain⟨t,rfl⟩:=intItems_at hv;obtain⟨h1,h2⟩:=argBest_gt (numAt ys) (ys.size-1);refine⟨.int _,H,I.more (λb o eb=>hk b o eb),yeP _ _,q _ ?_ λb hb=>?_⟩
 ·rw[hns,numAt_eq];exact getD_mem (by rw[xA0,xAm];lia)
 ·rw[hns]at hb;obtain⟨j,hj,rfl⟩:=mem_getD hb;rw[xA0,xAm]at hj;rw[<-numAt_eq];exact h2 j (by lia)
end
end L2
end
section
-- text: ExtV
namespace HT
open PySem PyProof.Rows
section
variable {prog:Program} {w:World} {A:Around} {E:Value->Shared->Prop} {s:Shared}
end
end HT
namespace L2
open PySem PyProof.Rows
section
variable {X:Cx}
end
end L2
end
section
-- text: ExtW
namespace HT
open PySem PyProof.Rows
section
variable {prog:Program} {w:World} {A:Around} {E:Value->Shared->Prop} {s:Shared}
theorem getItem_tuple_whole{t sl:Addr}{items:Array Value}{vl vu:Value}{lo hi:Option Int}{Q:Value->Shared->Prop}(ht:IsTup s.heap t items)(hs:s.heap.IsSliceOf sl vl vu .none)(pl:IsPart vl lo)(pu:IsPart vu hi)
  (hw:sIx items.size 0 lo=0/\sIx items.size items.size hi=items.size) (h:Q (.ref t) s):wpAny (model prog w) A (getItem (.ref t) (.ref sl)) Q E s:=by
 obtain⟨os,hos,hcs,hds⟩:=id hs;have hTs:s.TypeIs (.ref sl) "slice":=⟨os,hos,hcs⟩
 unfold getItem
 try with_reducible refine xBf ?_
 first|refine xA1 (xA3 ?_)|skip
 refine xA1 (wpAny_sequenceKey ht.typeIs (by decide) ?_);refine xA1 (xAV (name:=Str.ofString "__getitem__") ht.typeIs PyProof.Rows.slot_tuple_getitem
  (xAX PyProof.Rows.slot_tuple_getitem ht.typeIs entry_tuple_getitem ?_ (args_tuple_getitem _ _)))
 show wpAny _ _ (Builtin.Tuple.tupleItemsOf (.ref t) >>= _) _ _ s;refine xA1 (tupleItemsOf_ ht ?_);refine xA1 (wpAny_typeOf hTs ?_);rw[if_pos (by decide)];refine xA1 (ybz hs pl pu ?_);have hyes:(((sIx items.size 0 lo:Nat):Int)==0&&(1:Int)==1&&(sIx items.size items.size hi-sIx items.size 0 lo)==items.size)=true:=by
  rw[hw.1,hw.2,Nat.sub_zero];simp
 show wpAny _ _ (if (((sIx items.size 0 lo:Nat):Int)==0&&(1:Int)==1&&(sIx items.size items.size hi-sIx items.size 0 lo)==items.size)=true then _ else _) _ _ s;rw[if_pos hyes];unfold Builtin.Tuple.tupleIsExact;refine xA1 (xA1 (wpAny_typeOf ht.typeIs (xA3 ?_)));rw[if_pos (by decide)]
 first
  |exact xA1 (xB9 (xA3 ⟨_,rfl,xA3 h⟩))
  |exact xA1 (xA1 (xB9 (xA3 (xA3 ⟨_,rfl,xA3 h⟩))))
  |exact xA1 (xB9 (xA1 (xA3 (xA3 ⟨_,rfl,xA3 h⟩))))
  |(refine xA1 (xB9 ?_);trace_state;exact xA3 h)
end
end HT
namespace L2
open PySem PyProof.Rows
section
variable {X:Cx}
noncomputable def rSlA(K:PySem.W.Frag):V->Option Int->Option Int->Hp->VK->Prop:=λx lo hi H Q=>∃a xs,x = .ref a/\SqT K H a xs/\(cutV xs lo hi=xs->Q (.ref a) H)/\∀p,H p=none->Q (.ref p) (upd H p (.tup (cutV xs lo hi)))
theorem zg9:SlR X (rSlA X.K):=by
 intro pins s σ H x v vl vu lo hi sl Q I rx hs pl pu h;obtain⟨a,xs,rfl,hx,q1,q⟩:=h;by_cases hw:HT.sIx xs.length 0 lo=0/\HT.sIx xs.length xs.length hi=xs.length
 ·cases rx;obtain⟨its,r,ht,hz⟩:=I.tuple hx;have hlen:its.toArray.size=xs.length:=by rw[xAa];exact r.length.symm
  refine⟨"tuple",_,PyProof.Rows.slot_tuple_getitem.lookup,ht.typeIs,?_⟩;refine HT.getItem_tuple_whole ht hs pl pu (by rw[hlen];exact hw) ?_;exact⟨.ref a,H,I,rfl,q1 (by unfold cutV;rw[hw.1,hw.2,Nat.sub_zero,List.drop_zero,xAJ])⟩
 ·exact ygV pins s σ H _ v vl vu lo hi sl Q I rx hs pl pu ⟨a,xs,rfl,hx,hw,q⟩
end
end L2
end
section
-- text: ExtX
namespace L2
open PySem PySem.Spec PyProof.Rows
section
variable {X:Cx}
end
end L2
end
section
-- text: ExtY
namespace L2
open PySem PySem.Spec PyProof.Rows
section
variable {X:Cx}
end
end L2
namespace L2
open PySem PySem.Spec PyProof.Rows
section
variable {X:Cx} {K:PySem.W.Frag}
end
end L2
end
section
-- text: ExtZ
namespace L2
open PySem PySem.Spec PyProof.Rows
noncomputable def RdN(K:PySem.W.Frag)(H:Hp):Nat->V->PyData->Prop
 |0,_,_=>False
 |n+1,v,d=>(∃i:Int,v = .int i/\d = .int i)\/∃(a:Addr) (xs:List V) (ds:List PyData),v = .ref a/\d = .tuple ds/\SqT K H a xs/\xs.length=ds.length/\∀(i:Nat) x e,xs[i]?=some x->ds[i]?=some e->RdN K H n x e
theorem zcB{h:Heap}:∀ {us:List Value} {ds:List PyData},us.length=ds.length->(∀(i:Nat) u e,us[i]?=some u->ds[i]?=some e->Reads h u e [])->ReadsAll h us ds []
 | [],[],_,_=>.nil
 | [],_::_,hl,_=>by cases hl
 |_::_,[],hl,_=>by cases hl
 |u::us,d::ds,hl,hr=>by
  have h1:=hr 0 u d rfl rfl;have h2:=zcB (us:=us) (ds:=ds) (by simpa using hl) λi u' e hu he=>hr (i+1) u' e hu he
  exact .cons (as:=[]) (bs:=[]) h1 h2
section
variable {X:Cx}
theorem zeQ{pins:List (Addr×Obj)}{σ:St}{H:Hp}{s:Shared}(I:Inv X pins σ H s):∀(n:Nat) (x:V) (d:PyData) (u:Value),RdN X.K H n x d->RelV x u->Reads s.heap u d []
 |0,_,_,_,h,_=>h.elim
 |n+1,x,d,u,h,r=>by
  rcases h with⟨i,rfl,rfl⟩ |⟨a,xs,ds,rfl,rfl,ha,hl,hx⟩
  ·obtain⟨t,rfl⟩:=r;exact .int i t
  ·cases r;obtain⟨us,r1,⟨o,ho,hc,k,hd⟩,z1⟩:=I.tuple ha;have l1:=r1.length;refine .tuple ho hc hd (zcB (by simp;lia) λi u e hu he=>?_);have hi:=(xAk.mp hu).1;obtain⟨x1,e1,q1⟩:=ygw r1 (i:=i) (by simpa using hi);have eu:us.toArray[i]'(by simpa using hi)=u:=by
    have:=(xAk.mp hu).2
    simpa using this
   rw[eu]at q1;exact zeQ I n x1 e u (hx i x1 e e1 he) q1
end
structure DOk(d:PyData)(w:Nat):Prop where
 sh:d.showable=true
 nd:d.hasDict=false
 dp:d.depth<=40
 sl:d.leavesShort 8=true
 we:d.weight<=w
theorem zdq{K:PySem.W.Frag}{H:Hp}{a:Addr}{ns:List Nat}{k:Nat}(h:SqT K H a (ns.map λn:Nat=>V.int (n:Int))):RdN K H (k+2) (.ref a) (.tuple (ns.map λn:Nat=>PyData.int (n:Int))):=by
 refine .inr ⟨a,_,_,rfl,rfl,h,by simp,λi x e hx he=>.inl ?_⟩;rw[xA8]at hx he;cases q:ns[i]? with
 |none=>rw[q]at hx;cases hx
 |some n=>rw[q]at hx he;cases hx;cases he;exact⟨_,rfl,rfl⟩
section
variable {X:Cx}
end
end L2
end
section
-- text: ExtRa
namespace L2
open PySem PySem.Spec PyProof.Rows
section
variable {prog:Program} {w:World} {A:Around} {E:Value->Shared->Prop} {s:Shared}
end
section
variable {X:Cx}
end
end L2
end
section
-- text: ExtRb
namespace L2
open PySem PySem.Spec PyProof.Rows
section
variable {X:Cx}
end
end L2
end
section
-- text: ExtRc
namespace L2
open PySem PySem.Spec PyProof.Rows
section
variable {X:Cx} {pins:List (Addr×Obj)} {σ:St} {H:Hp} {s:Shared} {a:Addr}
end
section
variable {X:Cx} {tg:Expr}
end
end L2
end
section
-- text: MathA
set_option autoImplicit false
namespace Dg
noncomputable def dg(p i x:Nat):Nat:=x/p^i%p
theorem zbh(p x:Nat):dg p 0 x=x%p:=by simp[dg]
theorem ybw(p i x:Nat):dg p (i+1) x=dg p i (x/p):=by
 unfold dg;rw[xAD,xBb,xBk]
theorem yhQ{p:Nat}(hp:2<=p)(i x:Nat):dg p i x<p:=xAR _ (by lia)
theorem zar{p:Nat}(hp:2<=p){i k x:Nat}(h:x<p^k)(hk:k<=i):dg p i x=0:=by
 unfold dg;have:x<p^i:=xAz h (xAI (by lia) hk);rw[Nat.div_eq_of_lt this,Nat.zero_mod]
theorem zbf(p i:Nat):dg p i 0=0:=by simp[dg]
theorem ext{p:Nat}(hp:2<=p):∀ {a b:Nat},(∀i,dg p i a=dg p i b)->a=b:=by
 intro a
 induction a using Nat.strongRecOn with
 |_ a ih=>
  intro b h;have h0:=h 0;rw[zbh,zbh]at h0;by_cases ha:a=0
  ·subst ha;have key:∀n,∀b,b<=n->(∀i,dg p i b=0)->b=0:=by
    intro n
    induction n with
    |zero=>intro b hb _;lia
    |succ n ihn=>
     intro b hb hz;by_cases hb0:b=0
     ·exact hb0
     ·have hlt:b/p<b:=Nat.div_lt_self (by lia) (by lia);have hd:b/p=0:=ihn (b/p) (by lia) λi=>by rw[<-ybw];exact hz (i+1)
      have hm:b%p=0:=by rw[<-zbh];exact hz 0
      have:=Nat.div_add_mod b p;rw[hd,hm]at this
      simpa using this.symm
   exact(key b b (xA4 _) λi=>by rw[<-h i,zbf]).symm
  ·have hlt:a/p<a:=Nat.div_lt_self (by lia) (by lia);have hd:a/p=b/p:=ih (a/p) hlt λi=>by rw[<-ybw,<-ybw];exact h (i+1)
   have e1:=Nat.div_add_mod a p;have e2:=Nat.div_add_mod b p;rw[<-e1,<-e2,hd,h0]
theorem zce{p:Nat}(hp:2<=p){j r:Nat}(h:∀i,j<=i->dg p i r=0):r<p^j:=by
 have hpos:0<p^j:=xB1 (by lia);have hq:r/p^j=0:=by
  refine ext hp λi=>?_
  rw[zbf];have:=h (j+i) (by lia);unfold dg at this ⊢;rw[Nat.pow_add,<-xBk]at this;exact this
 have:=Nat.div_add_mod r (p^j);rw[hq,Nat.mul_zero,Nat.zero_add]at this;rw[<-this];exact xAR _ hpos
theorem yf2{p:Nat}(hp:2<=p){k t d:Nat}(ht:t<p^k)(hd:d<p)(i:Nat):dg p i (t+d*p^k)=if i=k then d else dg p i t:=by
 have hpos:0<p^k:=xB1 (by lia);unfold dg;by_cases h1:i<k
 ·rw[if_neg (by lia)];obtain⟨c,rfl⟩:∃c,k=i+(c+1):=⟨k-i-1,by lia⟩
  have e:d*p^(i+(c+1))=p^i*(d*p^c*p):=by rw[Nat.pow_add,xAD];ac_rfl
  rw[e,Nat.add_mul_div_left _ _ (xB1 (by lia)),Nat.add_mul_mod_self_right]
 ·by_cases h2:i=k
  ·subst h2;rw[if_pos rfl,Nat.add_mul_div_right _ _ hpos,Nat.div_eq_of_lt ht,Nat.zero_add,Nat.mod_eq_of_lt hd]
  ·rw[if_neg h2];have hlt:t+d*p^k<p^i:=by
    have:t+d*p^k<p^(k+1):=by
     rw[xAD]
     calc t+d*p^k<p^k+d*p^k:=by lia
      _=(d+1)*p^k:=by rw[Nat.add_mul];lia
      _<=p*p^k:=Nat.mul_le_mul_right _ hd
      _=p^k*p:=xBb _ _
    exact xAz this (xAI (by lia) (by lia))
   rw[Nat.div_eq_of_lt hlt,Nat.div_eq_of_lt (xAz ht (xAI (by lia) (by lia)))]
theorem yf8{p:Nat}{k t d:Nat}(ht:t<p^k)(hd:d<p):t+d*p^k<p^(k+1):=by
 rw[xAD]
 calc t+d*p^k<p^k+d*p^k:=by lia
  _=(d+1)*p^k:=by rw[Nat.add_mul];lia
  _<=p*p^k:=Nat.mul_le_mul_right _ hd
  _=p^k*p:=xBb _ _
noncomputable def yaJ(f:Nat->Nat):Nat->Nat:=λi=>if i=0 then 0 else f (i-1)
noncomputable def zaF(m:Nat)(t f:Nat->Nat):Nat->Nat:=λi=>if i<m then yaJ f i+f (m-1)*t i else 0
noncomputable def tn(m:Nat)(t:Nat->Nat):Nat->(Nat->Nat)->(Nat->Nat)->Nat->Nat
 |0,_,_=>λ_=>0
 |k+1,f,y=>λi=>f 0*y i+tn m t k (λj=>f (j+1)) (zaF m t y) i
noncomputable def zbu(m:Nat)(t:Nat->Nat)(q:Nat)(f:Nat->Nat):Nat->Nat:=λi=>f i+if q-m<=i/\i<q then f q*t (i-(q-m)) else 0
noncomputable def redF(m:Nat)(t:Nat->Nat):Nat->(Nat->Nat)->(Nat->Nat)
 |0,f=>f
 |j+1,f=>redF m t j (zbu m t (m+j) f)
noncomputable def ydl:Nat->(Nat->Nat)->(Nat->Nat)->Nat->Nat
 |0,_,_=>λ_=>0
 |k+1,f,y=>λi=>f 0*y i+yaJ (ydl k (λj=>f (j+1)) y) i
section
variable {m:Nat} {t:Nat->Nat}
theorem yga(q c:Nat)(f g:Nat->Nat):zbu m t q (λi=>c*f i+g i)=λi=>c*zbu m t q f i+zbu m t q g i:=by
 funext i
 unfold zbu;split
 ·dsimp only;rw[Nat.mul_add,Nat.add_mul];ac_rfl
 ·simp
theorem yeX(c:Nat):∀(j:Nat) (f g:Nat->Nat),redF m t j (λi=>c*f i+g i)=λi=>c*redF m t j f i+redF m t j g i
 |0,f,g=>rfl
 |j+1,f,g=>by
  show redF m t j (zbu m t (m+j) λi=>c*f i+g i)=_;rw[yga,yeX c j];rfl
theorem yeA{q:Nat}(hq:m<=q)(f:Nat->Nat):zbu m t (q+1) (yaJ f)=yaJ (zbu m t q f):=by
 funext i
 unfold zbu yaJ;by_cases h0:i=0
 ·subst h0;rw[if_pos rfl,if_pos rfl];rw[if_neg (by lia)]
 ·rw[if_neg h0,if_neg h0,if_neg (show ¬ q+1=0 by lia)];congr 1;by_cases h1:q-m<=i-1/\i-1<q
  ·rw[if_pos h1,if_pos (by lia),Nat.add_sub_cancel];congr 2;lia
  ·rw[if_neg h1,if_neg (by lia)]
theorem yda(hm:1<=m):∀(j:Nat) (f:Nat->Nat) (i:Nat),i<m->redF m t (j+1) (yaJ f) i=zaF m t (redF m t j f) i
 |0,f,i,hi=>by
  show zbu m t (m+0) (yaJ f) i=zaF m t f i;unfold zbu zaF;rw[if_pos hi,if_pos (by lia)];congr 1;show yaJ f (m+0)*t (i-(m+0-m))=_;unfold yaJ;rw[if_neg (by lia)];simp
 |j+1,f,i,hi=>by
  show redF m t (j+1) (zbu m t (m+(j+1)) (yaJ f)) i=zaF m t (redF m t j (zbu m t (m+j) f)) i;rw[<-yda hm j (zbu m t (m+j) f) i hi,<-yeA (by lia)];rfl
theorem zeV:∀(j:Nat) (f:Nat->Nat),(∀q,m<=q->f q=0)->redF m t j f=f
 |0,f,_=>rfl
 |j+1,f,h=>by
  have e:zbu m t (m+j) f=f:=by
   funext i
   unfold zbu;rw[h (m+j) (by lia)];simp
  show redF m t j (zbu m t (m+j) f)=f;rw[e];exact zeV j f h
theorem ydY(c:Nat)(f g:Nat->Nat):zaF m t (λi=>c*f i+g i)=λi=>c*zaF m t f i+zaF m t g i:=by
 funext i
 unfold zaF yaJ;split
 ·split
  ·simp[Nat.mul_add,Nat.add_mul,Nat.mul_assoc]
  ·dsimp only;rw[Nat.mul_add,Nat.add_mul];ac_rfl
 ·simp
theorem yeg:∀(k:Nat) (f y:Nat->Nat),zaF m t (tn m t k f y)=tn m t k f (zaF m t y)
 |0,f,y=>by
  funext i
  show zaF m t (λ_=>0) i=0;unfold zaF yaJ;split
  ·split <;> simp
  ·rfl
 |k+1,f,y=>by
  show zaF m t (λi=>f 0*y i+tn m t k (λj=>f (j+1)) (zaF m t y) i)=_;rw[ydY,yeg k];rfl
theorem zeJ(hm:1<=m):∀(k:Nat) (f y:Nat->Nat),(∀q,m<=q->y q=0)->∀i,i<m->redF m t k (ydl (k+1) f y) i=tn m t (k+1) f y i
 |0,f,y,hy,i,hi=>by
  show f 0*y i+yaJ (λ_=>0) i=f 0*y i+0;unfold yaJ;split <;> rfl
 |k+1,f,y,hy,i,hi=>by
  show redF m t (k+1) (λi=>f 0*y i+yaJ (ydl (k+1) (λj=>f (j+1)) y) i) i=f 0*y i+tn m t (k+1) (λj=>f (j+1)) (zaF m t y) i;rw[yeX];show f 0*redF m t (k+1) y i+redF m t (k+1) (yaJ (ydl (k+1) (λj=>f (j+1)) y)) i=_;rw[zeV (k+1) y hy,yda hm k _ i hi];congr 1;have e:∀i,i<m->redF m t k (ydl (k+1) (λj=>f (j+1)) y) i=tn m t (k+1) (λj=>f (j+1)) y i:=λi hi=>zeJ hm k _ y hy i hi
  rw[<-yeg];unfold zaF yaJ;rw[if_pos hi,if_pos hi,e (m-1) (by lia)];by_cases h0:i=0
  ·rw[if_pos h0,if_pos h0]
  ·rw[if_neg h0,if_neg h0,e (i-1) (by lia)]
end
theorem zcf{m:Nat}{t:Nat->Nat}:∀(k:Nat) (f y:Nat->Nat) (i:Nat),(∀j,f j=0)->tn m t k f y i=0
 |0,_,_,_,_=>rfl
 |k+1,f,y,i,h=>by
  show f 0*y i+tn m t k (λj=>f (j+1)) (zaF m t y) i=0;rw[h 0,zcf k _ _ i λj=>h (j+1)];simp
theorem ybr{p a b c d:Nat}(h1:a%p=c%p)(h2:b%p=d%p):(a+b)%p=(c+d)%p:=by rw[Nat.add_mod,h1,h2,<-Nat.add_mod]
theorem ydG{p a b c d:Nat}(h1:a%p=c%p)(h2:b%p=d%p):(a*b)%p=(c*d)%p:=by rw[Nat.mul_mod,h1,h2,<-Nat.mul_mod]
theorem zeA{p m:Nat}(hm:1<=m){t y y':Nat->Nat}(h:∀i,i<m->y i%p=y' i%p)(i:Nat):zaF m t y i%p=zaF m t y' i%p:=by
 unfold zaF yaJ;split
 ·refine ybr ?_ (ydG (h (m-1) (by lia)) rfl);split
  ·rfl
  ·exact h (i-1) (by lia)
 ·rfl
theorem ybc{p m:Nat}(hm:1<=m){t:Nat->Nat}:∀(k:Nat) (f y y':Nat->Nat),(∀i,i<m->y i%p=y' i%p)->∀i,i<m->tn m t k f y i%p=tn m t k f y' i%p
 |0,_,_,_,_,_,_=>rfl
 |k+1,f,y,y',h,i,hi=>ybr (ydG rfl (h i hi)) (ybc hm k _ _ _ (λj _=>zeA hm h j) i hi)
theorem zcI(p x:Nat):(λj=>dg p (j+1) x)=λj=>dg p j (x/p):=by funext j;exact ybw p j x
theorem zd3(p i x:Nat):dg p i x%p=dg p i x:=by unfold dg;exact Nat.mod_mod _ _
theorem yhP{p:Nat}(hp:2<=p)(k i x:Nat):dg p i (x%p^k)=if i<k then dg p i x else 0:=by
 by_cases h:i<k
 ·rw[if_pos h];unfold dg;obtain⟨c,rfl⟩:∃c,k=i+(c+1):=⟨k-i-1,by lia⟩
  rw[Nat.pow_add,Nat.mod_mul_right_div_self,xAD,xBb (p^c) p,Nat.mod_mul_right_mod]
 ·rw[if_neg h];exact zar hp (xAR _ (xB1 (by lia))) (by lia)
theorem yie{p:Nat}(hp:2<=p)(i x:Nat):dg p i (x*p)=if i=0 then 0 else dg p (i-1) x:=by
 cases i with
 |zero=>rw[zbh,if_pos rfl,Nat.mul_mod_left]
 |succ i=>rw[if_neg (by lia),ybw,Nat.mul_div_cancel _ (by lia)];rfl
theorem zhr{p m x:Nat}(hp:2<=p)(hm:1<=m)(h:x<p^m):x/p^(m-1)=dg p (m-1) x:=by
 unfold dg;rw[Nat.mod_eq_of_lt];obtain⟨c,rfl⟩:∃c,m=c+1:=⟨m-1,by lia⟩
 exact Nat.div_lt_of_lt_mul (by simpa[xAD]using h)
end Dg
end
section
-- text: MathB
namespace Dg
noncomputable def ofF(p:Nat):Nat->(Nat->Nat)->Nat
 |0,_=>0
 |m+1,f=>f 0%p+p*ofF p m (λj=>f (j+1))
theorem ye4{p:Nat}(hp:2<=p):∀(m:Nat) (f:Nat->Nat),ofF p m f<p^m
 |0,f=>by simp[ofF]
 |m+1,f=>by
  have h:=ye4 hp m λj=>f (j+1)
  have h1:f 0%p<p:=xAR _ (by lia);show f 0%p+p*ofF p m (λj=>f (j+1))<p^(m+1)
  calc f 0%p+p*ofF p m (λj=>f (j+1))<p+p*ofF p m (λj=>f (j+1)):=by lia
   _=p*(ofF p m (λj=>f (j+1))+1):=by rw[Nat.mul_add,Nat.mul_one,Nat.add_comm]
   _<=p*p^m:=Nat.mul_le_mul_left _ h
   _=p^(m+1):=by rw[xAD,xBb]
theorem zdT{p:Nat}(hp:2<=p):∀(m:Nat) (f:Nat->Nat) (i:Nat),dg p i (ofF p m f)=if i<m then f i%p else 0
 |0,f,i=>by simp[ofF,zbf]
 |m+1,f,i=>by
  have h1:f 0%p<p:=xAR _ (by lia);cases i with
  |zero=>
   rw[if_pos (by lia),zbh];show(f 0%p+p*ofF p m (λj=>f (j+1)))%p=f 0%p;rw[Nat.add_mul_mod_self_left,Nat.mod_mod]
  |succ i=>
   rw[ybw];show dg p i ((f 0%p+p*ofF p m (λj=>f (j+1)))/p)=_;rw[Nat.add_mul_div_left _ _ (by lia),Nat.div_eq_of_lt h1,Nat.zero_add,zdT hp m];by_cases h:i<m
   ·rw[if_pos h,if_pos (by lia)]
   ·rw[if_neg h,if_neg (by lia)]
theorem ybL{p:Nat}(hp:2<=p){m a b:Nat}(ha:a<p^m)(hb:b<p^m)(h:∀i,i<m->dg p i a=dg p i b):a=b :=
 ext hp λi=>by
  by_cases hi:i<m
  ·exact h i hi
  ·rw[zar hp ha (by lia),zar hp hb (by lia)]
noncomputable abbrev dgs(p x:Nat):Nat->Nat:=λi=>dg p i x
noncomputable def add(p m x y:Nat):Nat:=ofF p m λi=>dg p i x+dg p i y
noncomputable def sub(p m x y:Nat):Nat:=ofF p m λi=>dg p i x+(p-1)*dg p i y
noncomputable def up(p m t x:Nat):Nat:=ofF p m (zaF m (dgs p t) (dgs p x))
noncomputable def mulN(p m t:Nat):Nat->Nat->Nat->Nat
 |0,_,_=>0
 |k+1,x,y=>ofF p m λi=>x%p*dg p i y+dg p i (mulN p m t k (x/p) (up p m t y))
noncomputable def mul(p m t x y:Nat):Nat:=mulN p m t m x y
section
variable {p m t:Nat} (hp:2<=p) (hm:1<=m)
include hp hm
theorem zf9:∀(k x y i:Nat),i<m->dg p i (mulN p m t k x y)=tn m (dgs p t) k (dgs p x) (dgs p y) i%p
 |0,x,y,i,hi=>by show dg p i 0=0%p;rw[zbf];simp
 |k+1,x,y,i,hi=>by
  show dg p i (ofF p m λi=>x%p*dg p i y+dg p i (mulN p m t k (x/p) (up p m t y)))=_;rw[zdT hp,if_pos hi];show _=(dg p 0 x*dg p i y+tn m (dgs p t) k (λj=>dg p (j+1) x) (zaF m (dgs p t) (dgs p y)) i)%p;rw[zf9 k _ _ i hi,zbh];refine ybr rfl ?_;rw[Nat.mod_mod,zcI];refine ybc hm k _ _ _ (λj hj=>?_) i hi;show dg p j (up p m t y)%p=_;unfold up;rw[zdT hp,if_pos hj,Nat.mod_mod]
theorem yhd:∀(k x y:Nat),mulN p m t k x y<p^m
 |0,x,y=>xB1 (by lia)
 |k+1,x,y=>ye4 hp _ _
theorem zaA(x y:Nat):mul p m t x y<p^m:=yhd hp hm _ _ _
theorem zbb(x y:Nat):add p m x y<p^m:=ye4 hp _ _
theorem zbS(x y:Nat):sub p m x y<p^m:=ye4 hp _ _
theorem zbo(x y i:Nat)(hi:i<m):dg p i (mul p m t x y)=tn m (dgs p t) m (dgs p x) (dgs p y) i%p:=zf9 hp hm m x y i hi
theorem ybJ(x y i:Nat)(hi:i<m):dg p i (add p m x y)=(dg p i x+dg p i y)%p:=by unfold add;rw[zdT hp,if_pos hi]
theorem ze3(x y i:Nat)(hi:i<m):dg p i (sub p m x y)=(dg p i x+(p-1)*dg p i y)%p:=by unfold sub;rw[zdT hp,if_pos hi]
theorem yb4{x y r:Nat}(hr:r<p^m)(h:∀i,i<m->dg p i r=tn m (dgs p t) m (dgs p x) (dgs p y) i%p):r=mul p m t x y :=
 ybL hp hr (zaA hp hm x y) λi hi=>by rw[h i hi,zbo hp hm x y i hi]
theorem yeW{x y r:Nat}(hx:x<p^m)(hy:y<p^m)(h:∀i,dg p i r=(dg p i x+dg p i y)%p):r=add p m x y :=
 ext hp λi=>by
  by_cases hi:i<m
  ·rw[h,ybJ hp hm x y i hi]
  ·rw[h,zar hp (zbb hp hm x y) (by lia),zar hp hx (by lia),zar hp hy (by lia)];simp
theorem yeY{x y r:Nat}(hx:x<p^m)(hy:y<p^m)(h:∀i,dg p i r=(dg p i x+(p-1)*dg p i y)%p):r=sub p m x y :=
 ext hp λi=>by
  by_cases hi:i<m
  ·rw[h,ze3 hp hm x y i hi]
  ·rw[h,zar hp (zbS hp hm x y) (by lia),zar hp hx (by lia),zar hp hy (by lia)];simp
end
section
variable {m:Nat} {t:Nat->Nat}
theorem yd0(c:Nat):∀(k:Nat) (f y z:Nat->Nat),tn m t k f (λi=>c*y i+z i)=λi=>c*tn m t k f y i+tn m t k f z i
 |0,f,y,z=>by funext i;rfl
 |k+1,f,y,z=>by
  funext i
  show f 0*(c*y i+z i)+tn m t k (λj=>f (j+1)) (zaF m t λi=>c*y i+z i) i=c*(f 0*y i+tn m t k (λj=>f (j+1)) (zaF m t y) i)+(f 0*z i+tn m t k (λj=>f (j+1)) (zaF m t z) i);rw[ydY,yd0 c k];dsimp only;rw[Nat.mul_add,Nat.mul_add,Nat.mul_left_comm];lia
theorem zeq:∀(k l:Nat) (f g y:Nat->Nat),tn m t k f (tn m t l g y)=tn m t l g (tn m t k f y)
 |0,l,f,g,y=>by
  show(λ_=>0)=tn m t l g (λ_=>0);have h:=yd0 (m:=m) (t:=t) 0 l g (λ_=>0) (λ_=>0)
  funext i
  have h2:=yd0 (m:=m) (t:=t) 1 l g (λ_=>0) (λ_=>0);have h3:=congrFun h2 i;simp at h3;exact h3.symm
 |k+1,l,f,g,y=>by
  show(λi=>f 0*tn m t l g y i+tn m t k (λj=>f (j+1)) (zaF m t (tn m t l g y)) i)=tn m t l g (λi=>f 0*y i+tn m t k (λj=>f (j+1)) (zaF m t y) i);rw[yeg,zeq k,yd0]
noncomputable def ybZ(s:Nat):Nat->Nat:=λi=>if i=s then 1 else 0
theorem zfE{s:Nat}(h:s+1<m):zaF m t (ybZ s)=ybZ (s+1):=by
 funext i
 unfold zaF yaJ ybZ;rw[if_neg (show ¬ m-1=s by lia),Nat.zero_mul,Nat.add_zero];by_cases hi:i<m
 ·rw[if_pos hi];by_cases h0:i=0
  ·rw[if_pos h0,if_neg (by lia)]
  ·rw[if_neg h0];by_cases hs:i-1=s
   ·rw[if_pos hs,if_pos (by lia)]
   ·rw[if_neg hs,if_neg (by lia)]
 ·rw[if_neg hi,if_neg (by lia)]
theorem yfu:∀(k s:Nat) (f:Nat->Nat) (i:Nat),s+k<=m->tn m t k f (ybZ s) i=if s<=i/\i<s+k then f (i-s) else 0
 |0,s,f,i,_=>by rw[if_neg (by lia)];rfl
 |k+1,s,f,i,h=>by
  show f 0*ybZ s i+tn m t k (λj=>f (j+1)) (zaF m t (ybZ s)) i=_;cases k with
  |zero=>
   show f 0*ybZ s i+0=_;unfold ybZ;by_cases hi:i=s
   ·rw[if_pos hi,if_pos (by lia)];subst hi;simp
   ·rw[if_neg hi,if_neg (by lia)];simp
  |succ k=>
   rw[zfE (by lia),yfu (k+1) (s+1) _ i (by lia)];unfold ybZ;by_cases hi:i=s
   ·subst hi;rw[if_pos rfl,if_neg (by lia),if_pos (by lia)];simp
   ·rw[if_neg hi];by_cases h2:s+1<=i/\i<s+1+(k+1)
    ·rw[if_pos h2,if_pos (by lia)];show f 0*0+f (i-(s+1)+1)=f (i-s);rw[Nat.mul_zero,Nat.zero_add];congr 1;lia
    ·rw[if_neg h2,if_neg (by lia)];simp
theorem yfR(f:Nat->Nat)(i:Nat)(hi:i<m):tn m t m f (ybZ 0) i=f i:=by
 rw[yfu m 0 f i (by lia),if_pos (by lia),Nat.sub_zero]
end
section
variable {p m t:Nat} (hp:2<=p) (hm:1<=m)
include hp hm
theorem mul_comm(x y:Nat):mul p m t x y=mul p m t y x:=by
 refine ybL hp (zaA hp hm _ _) (zaA hp hm _ _) λi hi=>?_
 rw[zbo hp hm _ _ i hi,zbo hp hm _ _ i hi];have h1:=ybc (p:=p) hm (t:=dgs p t) m (dgs p x) (dgs p y) (tn m (dgs p t) m (dgs p y) (ybZ 0)) (λj hj=>by rw[yfR _ j hj]) i hi;have h2:=ybc (p:=p) hm (t:=dgs p t) m (dgs p y) (dgs p x) (tn m (dgs p t) m (dgs p x) (ybZ 0)) (λj hj=>by rw[yfR _ j hj]) i hi;rw[h1,h2,zeq]
theorem mul_left_comm(x y z:Nat):mul p m t x (mul p m t y z)=mul p m t y (mul p m t x z):=by
 refine ybL hp (zaA hp hm _ _) (zaA hp hm _ _) λi hi=>?_
 rw[zbo hp hm _ _ i hi,zbo hp hm _ _ i hi];have h1:=ybc (p:=p) hm (t:=dgs p t) m (dgs p x) (dgs p (mul p m t y z)) (tn m (dgs p t) m (dgs p y) (dgs p z)) (λj hj=>by show dg p j _%p=_;rw[zbo hp hm _ _ j hj,Nat.mod_mod]) i hi;have h2:=ybc (p:=p) hm (t:=dgs p t) m (dgs p y) (dgs p (mul p m t x z)) (tn m (dgs p t) m (dgs p x) (dgs p z)) (λj hj=>by show dg p j _%p=_;rw[zbo hp hm _ _ j hj,Nat.mod_mod]) i hi;rw[h1,h2,zeq]
theorem mul_assoc(x y z:Nat):mul p m t (mul p m t x y) z=mul p m t x (mul p m t y z):=by
 rw[mul_comm hp hm _ z,mul_left_comm hp hm z x y,mul_comm hp hm z y]
theorem mul_add(x y z:Nat):mul p m t x (add p m y z)=add p m (mul p m t x y) (mul p m t x z):=by
 refine ybL hp (zaA hp hm _ _) (zbb hp hm _ _) λi hi=>?_
 rw[zbo hp hm _ _ i hi,ybJ hp hm _ _ i hi,zbo hp hm _ _ i hi,zbo hp hm _ _ i hi];have h1:=ybc (p:=p) hm (t:=dgs p t) m (dgs p x) (dgs p (add p m y z)) (λi=>1*dgs p y i+dgs p z i) (λj hj=>by show dg p j _%p=(1*dg p j y+dg p j z)%p;rw[ybJ hp hm _ _ j hj,Nat.mod_mod,Nat.one_mul]) i hi;rw[h1,yd0];dsimp only;rw[Nat.one_mul,<-Nat.add_mod]
theorem zax:1<p^m:=by
 have:p^1<=p^m:=xAI (by lia) hm;rw[Nat.pow_one]at this;lia
theorem yhU(i:Nat):dg p i 1=ybZ 0 i:=by
 unfold ybZ;cases i with
 |zero=>rw[zbh,if_pos rfl,Nat.mod_eq_of_lt (by lia)]
 |succ i=>rw[if_neg (by lia),ybw,Nat.div_eq_of_lt (by lia),zbf]
theorem mul_one{x:Nat}(hx:x<p^m):mul p m t x 1=x:=by
 refine ybL hp (zaA hp hm _ _) hx λi hi=>?_
 rw[zbo hp hm _ _ i hi,show dgs p 1=ybZ 0 from funext λi=>yhU hp hm i,yfR _ i hi,zd3]
theorem one_mul{x:Nat}(hx:x<p^m):mul p m t 1 x=x:=by rw[mul_comm hp hm,mul_one hp hm hx]
theorem zero_mul(x:Nat):mul p m t 0 x=0:=by
 refine ybL hp (zaA hp hm _ _) (xB1 (by lia)) λi hi=>?_
 rw[zbo hp hm _ _ i hi,zcf _ _ _ _ (λj=>zbf p j),zbf];simp
theorem mul_zero(x:Nat):mul p m t x 0=0:=by rw[mul_comm hp hm,zero_mul hp hm]
theorem add_comm(x y:Nat):add p m x y=add p m y x:=by
 unfold add;congr 1;funext i;exact Nat.add_comm _ _
theorem add_assoc(x y z:Nat):add p m (add p m x y) z=add p m x (add p m y z):=by
 refine ybL hp (zbb hp hm _ _) (zbb hp hm _ _) λi hi=>?_
 rw[ybJ hp hm _ _ i hi,ybJ hp hm _ _ i hi,ybJ hp hm _ _ i hi,ybJ hp hm _ _ i hi,Nat.mod_add_mod,Nat.add_mod_mod,Nat.add_assoc]
theorem add_zero{x:Nat}(hx:x<p^m):add p m x 0=x:=by
 refine ybL hp (zbb hp hm _ _) hx λi hi=>?_
 rw[ybJ hp hm _ _ i hi,zbf,Nat.add_zero,zd3]
theorem zero_add{x:Nat}(hx:x<p^m):add p m 0 x=x:=by rw[add_comm hp hm,add_zero hp hm hx]
theorem zca{x y:Nat}(hx:x<p^m):add p m (sub p m x y) y=x:=by
 refine ybL hp (zbb hp hm _ _) hx λi hi=>?_
 rw[ybJ hp hm _ _ i hi,ze3 hp hm _ _ i hi,Nat.mod_add_mod,show dg p i x+(p-1)*dg p i y+dg p i y=dg p i x+p*dg p i y by obtain⟨k,rfl⟩:∃k,p=k+1:=⟨p-1,by lia⟩;rw[Nat.add_sub_cancel,Nat.add_mul];lia,Nat.add_mul_mod_self_left,zd3]
theorem zb0{x y:Nat}(hx:x<p^m):sub p m (add p m x y) y=x:=by
 refine ybL hp (zbS hp hm _ _) hx λi hi=>?_
 rw[ze3 hp hm _ _ i hi,ybJ hp hm _ _ i hi,Nat.mod_add_mod,show dg p i x+dg p i y+(p-1)*dg p i y=dg p i x+p*dg p i y by obtain⟨k,rfl⟩:∃k,p=k+1:=⟨p-1,by lia⟩;rw[Nat.add_sub_cancel,Nat.add_mul];lia,Nat.add_mul_mod_self_left,zd3]
noncomputable def pw(p m t x:Nat):Nat->Nat
 |0=>1
 |n+1=>mul p m t (pw p m t x n) x
theorem zaS(x n:Nat):pw p m t x n<p^m:=by
 cases n with
 |zero=>exact zax hp hm
 |succ n=>exact zaA hp hm _ _
theorem ybo(x a:Nat):∀b,pw p m t x (a+b)=mul p m t (pw p m t x a) (pw p m t x b)
 |0=>(mul_one hp hm (zaS hp hm x a)).symm
 |b+1=>by
  show mul p m t (pw p m t x (a+b)) x=mul p m t (pw p m t x a) (mul p m t (pw p m t x b) x);rw[ybo x a b,mul_assoc hp hm]
theorem ybR{x:Nat}(hx:x<p^m):pw p m t x 1=x:=one_mul hp hm hx
theorem za7(x a:Nat):∀b,pw p m t x (a*b)=pw p m t (pw p m t x a) b
 |0=>rfl
 |b+1=>by
  rw[Nat.mul_succ,ybo hp hm,za7 x a b];rfl
theorem zcU:∀n,pw p m t 1 n=1
 |0=>rfl
 |n+1=>by
  show mul p m t (pw p m t 1 n) 1=1;rw[zcU n,mul_one hp hm (zax hp hm)]
theorem zbZ(n:Nat):pw p m t 0 (n+1)=0:=mul_zero hp hm _
theorem zdc(x y:Nat):∀n,pw p m t (mul p m t x y) n=mul p m t (pw p m t x n) (pw p m t y n)
 |0=>(mul_one hp hm (zax hp hm)).symm
 |n+1=>by
  show mul p m t (pw p m t (mul p m t x y) n) (mul p m t x y)=mul p m t (mul p m t (pw p m t x n) x) (mul p m t (pw p m t y n) y);rw[zdc x y n,mul_assoc hp hm,mul_assoc hp hm,mul_left_comm hp hm (pw p m t y n) x y]
end
end Dg
end
section
-- text: MathC
namespace Dg
noncomputable def yee:List (Nat×Nat×List (Nat×Nat)):=[(2,1,[(1,0)]),(2,2,[(2,2),(3,3),(2,3),(2,0)]),(2,3,[(2,4),(3,7),(2,5),(2,0),(2,6),(2,0),(2,7),(3,5)]),(2,4,[(2,8),(3,15),(2,9),(2,0),(2,10),(7,7),(2,11),(3,13),(2,12),(2,0),(2,13),(3,9),(2,14),(3,11),(2,15),(3,0)]),(3,1,[(2,0)]),(3,2,[(3,3),(4,5),(4,0),(3,5),(3,0),(4,4),(3,4),(3,0),(5,5)]),(3,3,[(3,9),(5,13),(4,16),(3,11),(6,0),(3,0),(3,10),(4,17),(5,14),(3,15),(4,14),(3,0),(3,17),(4,0),(4,13),(3,16),(5,10),(3,0),(3,12),(5,0),(5,17),(3,14),(4,11),(3,0),(3,13),(4,0),(4,10)]),(5,1,[(2,0)]),(5,2,[(5,5),(6,9),(7,0),(6,0),(7,8),(5,9),(7,7),(6,8),(5,0),(6,0),(5,8),(6,0),(5,0),(6,7),(9,9),(5,7),(8,0),(5,0),(8,9),(6,6),(5,6),(8,8),(7,9),(5,0),(7,0)]),(7,1,[(3,0)]),(11,1,[(2,0)]),(13,1,[(2,0)]),(2,5,[(2,16),(3,31),(2,17),(7,13),(2,18),(2,0),(2,19),(3,29),(2,20),(2,0),(2,21),(3,25),(2,22),(3,27),(2,23),(2,0),(2,24),(7,11),(2,25),(3,17),(2,26),(3,19),(2,27),(2,0),(2,28),(3,23),(2,29),(2,0),(2,30),(2,0),(2,31),(3,21)]),(2,6,[(2,32),(3,63),(2,33),(2,0),(2,34),(11,11),(2,35),(3,61),(2,36),(3,0),(2,37),(3,57),(2,38),(3,59),(2,39),(7,25),(2,40),(13,13),(2,41),(3,49),(2,42),(3,51),(2,43),(3,0),(2,44),(3,55),(2,45),(2,0),(2,46),(7,31),(2,47),(3,53),(2,48),(2,0),(2,49),(3,33),(2,50),(3,35),(2,51),(2,0),(2,52),(3,39),(2,53),(7,21),(2,54),(2,0),(2,55),(3,37),(2,56),(3,47),(2,57),(2,0),(2,58),(3,0),(2,59),(3,45),(2,60),(7,19),(2,61),(3,41),(2,62),(3,43),(2,63),(11,13)]),(7,2,[(7,7),(8,13),(10,11),(8,0),(9,12),(8,0),(9,0),(7,13),(9,0),(8,12),(9,0),(7,0),(10,10),(9,11),(7,12),(9,10),(7,0),(8,11),(7,0),(8,0),(13,13),(7,11),(8,0),(7,0),(9,9),(8,10),(12,13),(8,0),(7,10),(11,0),(7,0),(12,12),(11,13),(8,9),(11,0),(7,9),(11,12),(7,0),(10,13),(7,0),(10,0),(8,8),(7,8),(10,0),(9,13),(10,0),(7,0),(11,11),(10,12)]),(61,1,[(2,0)]),(17,1,[(3,0)]),(19,1,[(2,0)]),(23,1,[(5,0)]),(29,1,[(2,0)]),(31,1,[(3,0)]),(37,1,[(2,0)]),(41,1,[(6,0)]),(43,1,[(3,0)]),(47,1,[(5,0)]),(53,1,[(2,0)]),(59,1,[(2,0)])]
noncomputable def menu:List (Nat×Nat):=yee.map λc=>(c.1,c.2.1)
noncomputable def ybj(p m t b:Nat):Nat->Nat->List Nat
 |_,0=>[]
 |x,n+1=>x::ybj p m t b (mul p m t x b) n
noncomputable def lowB(p m t b:Nat):Bool:=((ybj p m t b 1 (p^m-1)).drop 1).contains 1
noncomputable def zfW(p m t b:Nat):Bool:=(List.range b).all (λc=>c==0||lowB p m t c)&&!lowB p m t b&&decide (0<b)&&(List.range (p^m)).all (λy=>y==0||(ybj p m t b 1 (p^m-1)).contains y)&&(ybj p m t b 1 (p^m)).getLast?==some 1&&decide (b<p^m)
noncomputable def zez(p m t:Nat)(c:Nat×Nat):Bool:=if c.2=0 then zfW p m t c.1 else decide (0<c.1/\c.1<p^m/\c.1<p^(m/2+1)/\c.2<p^m)&&mul p m t c.1 c.2==0
noncomputable def zd7(p m:Nat):Nat->List (Nat×Nat)->Bool
 |_,[]=>true
 |t,c::cs=>zez p m t c&&zd7 p m (t+1) cs
noncomputable def zii:Bool:=yee.all λc=>zd7 c.1 c.2.1 0 c.2.2
theorem zgW:zii=true:=by decide +kernel
theorem ycy{p m t b:Nat}:∀(n k i:Nat),i<n->(ybj p m t b (pw p m t b k) n)[i]?=some (pw p m t b (k+i))
 |0,k,i,h=>absurd h (Nat.not_lt_zero _)
 |n+1,k,0,h=>rfl
 |n+1,k,i+1,h=>by
  show(ybj p m t b (pw p m t b (k+1)) n)[i]?=_;rw[ycy n (k+1) i (by lia),show k+1+i=k+(i+1) by lia]
theorem zcZ{p m t b:Nat}:∀(n x:Nat),(ybj p m t b x n).length=n
 |0,x=>rfl
 |n+1,x=>by show(ybj p m t b _ n).length+1=_;rw[zcZ n]
structure Prim(p m t b:Nat):Prop where
 lt:b<p^m
 round:pw p m t b (p^m-1)=1
 all:∀y,0<y->y<p^m->∃i,i<p^m-1/\pw p m t b i=y
 pos:0<b
 min:∀i,0<i->i<p^m-1->pw p m t b i≠1
 low:∀c,0<c->c<b->∃i,0<i/\i<p^m-1/\pw p m t c i=1
theorem zg6{p m t b:Nat}:lowB p m t b=true↔∃i,0<i/\i<p^m-1/\pw p m t b i=1:=by
 unfold lowB;rw[List.contains_iff_mem,List.mem_iff_getElem?];constructor
 ·rintro⟨j,h⟩;rw[List.getElem?_drop]at h;have hl:1+j<p^m-1:=by have:=(xAk.mp h).1;rw[zcZ]at this;exact this
  have g:=ycy (p:=p) (m:=m) (t:=t) (b:=b) (p^m-1) 0 (1+j) hl;rw[show pw p m t b 0=1 from rfl,h]at g;exact⟨1+j,by lia,hl,by simpa using (xAv g).symm⟩
 ·rintro⟨i,h0,hi,e⟩;refine⟨i-1,?_⟩;rw[List.getElem?_drop,show 1+(i-1)=i by lia];have g:=ycy (p:=p) (m:=m) (t:=t) (b:=b) (p^m-1) 0 i hi;rw[show pw p m t b 0=1 from rfl,Nat.zero_add,e]at g;exact g
theorem ydd{p m t b:Nat}(hq:0<p^m)(h:zfW p m t b=true):Prim p m t b:=by
 unfold zfW at h;simp only[xAx]at h;obtain⟨⟨⟨⟨⟨k1,k2⟩,k3⟩,h1⟩,h2⟩,h3⟩:=h;refine⟨xAj h3,?_,λy hy hy2=>?_,xAj k3,λi hi hi2 e=>?_,λc hc hc2=>?_⟩
 ·have e:(ybj p m t b 1 (p^m)).getLast?=some 1:=by simpa using h2
  rw[List.getLast?_eq_getElem?,zcZ]at e;have g:=ycy (p:=p) (m:=m) (t:=t) (b:=b) (p^m) 0 (p^m-1) (by lia);rw[show pw p m t b 0=1 from rfl]at g;rw[g]at e
  simpa using xAv e
 ·rw[xB4]at h1;have g:=h1 y (xAw.mpr hy2);rw[Bool.or_eq_true]at g;rcases g with g|g
  ·have:y=0:=by simpa using g
   lia
  ·have g:y∈ybj p m t b 1 (p^m-1):=List.contains_iff_mem.mp g;obtain⟨i,hi,e⟩:=List.mem_iff_getElem.mp g;rw[zcZ]at hi;have g2:=ycy (p:=p) (m:=m) (t:=t) (b:=b) (p^m-1) 0 i hi;rw[show pw p m t b 0=1 from rfl,xA5 (by rw[zcZ];exact hi),e]at g2;exact⟨i,hi,by simpa using (xAv g2).symm⟩
 ·have:=zg6.mpr ⟨i,hi,hi2,e⟩;rw[this]at k2;cases k2
 ·have g:=xB4.mp k1 c (xAw.mpr hc2);rw[Bool.or_eq_true]at g;rcases g with g|g
  ·have:c=0:=by simpa using g
   lia
  ·exact zg6.mp g
theorem ybM{p m:Nat}:∀(cs:List (Nat×Nat)) (t i:Nat) (c:Nat×Nat),zd7 p m t cs=true->cs[i]?=some c->zez p m (t+i) c=true
 | [],t,i,c,_,h=>by simp at h
 |d::cs,t,0,c,h,e=>by
  have h:(zez p m t d&&zd7 p m (t+1) cs)=true:=h;rw[xAx]at h;cases e;exact h.1
 |d::cs,t,i+1,c,h,e=>by
  have h:(zez p m t d&&zd7 p m (t+1) cs)=true:=h;rw[xAx]at h;have g:=ybM cs (t+1) i c h.2 (by simpa using e);rw[show t+(i+1)=t+1+i by lia];exact g
theorem ygP(p t x y:Nat):mul p 1 t x y=mul p 1 0 x y:=rfl
theorem zcV(p t x:Nat):∀n,pw p 1 t x n=pw p 1 0 x n
 |0=>rfl
 |n+1=>by
  show mul p 1 t (pw p 1 t x n) x=mul p 1 0 (pw p 1 0 x n) x;rw[zcV p t x n,ygP]
structure Good(p m t:Nat):Prop where
 mem:(p,m)∈menu
 top:t<p^m
 no:m=1\/∀x y,0<x->x<p^m->x<p^(m/2+1)->0<y->y<p^m->mul p m t x y≠0
noncomputable def zgr:Bool:=yee.all λc=>decide (2<=c.1/\1<=c.2.1/\c.1^c.2.1<=64)&&(if c.2.1=1 then decide (c.2.2.length=1)&&c.2.2.all (λd=>d.2==0) else decide (c.2.2.length=c.1^c.2.1))
theorem zcQ:zgr=true:=by decide +kernel
theorem ybn{p m:Nat}(h:(p,m)∈menu):2<=p/\1<=m/\p^m<=64:=by
 obtain⟨c,hc,e⟩:=xAg.mp h;cases e;have g:=xB4.mp zcQ c hc;rw[xAx]at g;exact xAj g.1
theorem Good.prim{p m t:Nat}(h:Good p m t):∃b,Prim p m t b:=by
 obtain⟨c,hc,e⟩:=xAg.mp h.mem;obtain⟨p',m',cs⟩:=c;obtain⟨rfl,rfl⟩:p'=p/\m'=m:=by simpa using e
 have hs:=ybn h.mem;have hq:0<p'^m':=xB1 (by lia);have g:=xB4.mp zcQ _ hc;have a:=xB4.mp zgW _ hc;rw[xAx]at g;have g:=g.2;dsimp only at g a;by_cases h1:m'=1
 ·subst h1;rw[if_pos rfl,xAx]at g;have hl:cs.length=1:=xAj g.1;obtain⟨c,rfl⟩:∃c,cs=[c]:=by
   cases cs with
   |nil=>simp at hl
   |cons c r=>cases r with
    |nil=>exact⟨c,rfl⟩
    |cons d r=>simp at hl
  have a1:=ybM [c] 0 0 c a rfl;have c0:c.2=0:=by simpa using xB4.mp g.2 c (by simp)
  unfold zez at a1;rw[if_pos c0]at a1;have P:=ydd hq a1;refine⟨c.1,P.lt,?_,λy hy hy2=>?_,P.pos,λi h1 h2=>?_,λd h1 h2=>?_⟩
  ·rw[zcV];exact P.round
  ·obtain⟨i,hi,e⟩:=P.all y hy hy2;exact⟨i,hi,by rw[zcV];exact e⟩
  ·rw[zcV];exact P.min i h1 h2
  ·obtain⟨i,a,b,e⟩:=P.low d h1 h2;exact⟨i,a,b,by rw[zcV];exact e⟩
 ·rw[if_neg h1]at g;have hl:cs.length=p'^m':=xAj g;have ht:t<cs.length:=by rw[hl];exact h.top
  have a1:=ybM cs 0 t cs[t] a (xA5 ht);rw[Nat.zero_add]at a1;unfold zez at a1;by_cases c0:cs[t].2=0
  ·rw[if_pos c0]at a1;exact⟨_,ydd hq a1⟩
  ·rw[if_neg c0,xAx]at a1;have b:=xAj a1.1;rcases h.no with h2|h2
   ·exact absurd h2 h1
   ·exact absurd (by simpa using a1.2) (h2 _ _ b.1 b.2.1 b.2.2.1 (by lia) b.2.2.2)
section
variable {p m t:Nat} (G:Good p m t)
include G
theorem Good.hp:2<=p:=(ybn G.mem).1
theorem Good.hm:1<=m:=(ybn G.mem).2.1
theorem Good.hq:p^m<=64:=(ybn G.mem).2.2
theorem Good.fermat{x:Nat}(h0:0<x)(hx:x<p^m):pw p m t x (p^m-1)=1:=by
 obtain⟨b,P⟩:=G.prim;obtain⟨i,_,rfl⟩:=P.all x h0 hx;rw[<-za7 G.hp G.hm,xBb,za7 G.hp G.hm,P.round,zcU G.hp G.hm]
theorem Good.inv{x:Nat}(h0:0<x)(hx:x<p^m):mul p m t (pw p m t x (p^m-2)) x=1:=by
 have h2:=zax G.hp G.hm;have e:p^m-1=(p^m-2)+1:=by lia
 have f:=G.fermat h0 hx;rw[e]at f;exact f
theorem Good.noz{x y:Nat}(h0:0<x)(hx:x<p^m)(k0:0<y)(hy:y<p^m):0<mul p m t x y:=by
 rcases xAZ (mul p m t x y) with e|e
 ·have i:=G.inv h0 hx;have f:mul p m t (pw p m t x (p^m-2)) (mul p m t x y)=y:=by rw[<-mul_assoc G.hp G.hm,i,one_mul G.hp G.hm hy]
  rw[e,mul_zero G.hp G.hm]at f;lia
 ·exact e
theorem Good.inj{b:Nat}(P:Prim p m t b):∀i j,i<p^m-1->j<p^m-1->pw p m t b i=pw p m t b j->i=j:=by
 have key:∀i j,i<j->j<p^m-1->pw p m t b i≠pw p m t b j:=by
  intro i j hij hj e;have hp:=G.hp;have hm:=G.hm;have h1:mul p m t (pw p m t b (p^m-1-i)) (pw p m t b i)=1:=by rw[<-ybo hp hm,show p^m-1-i+i=p^m-1 by lia,P.round]
  have h2:mul p m t (pw p m t b (p^m-1-i)) (pw p m t b j)=pw p m t b (j-i):=by
   rw[show j=i+(j-i) by lia,ybo hp hm,<-mul_assoc hp hm,h1,one_mul hp hm (zaS hp hm _ _),show i+(j-i)-i=j-i by lia]
  rw[<-e,h1]at h2;exact P.min (j-i) (by lia) (by lia) h2.symm
 intro i j hi hj e;rcases Nat.lt_trichotomy i j with h|h|h
 ·exact absurd e (key i j h hj)
 ·exact h
 ·exact absurd e.symm (key j i h hi)
theorem Good.pw_pos{b:Nat}(h0:0<b)(hb:b<p^m):∀n,0<pw p m t b n
 |0=>by show 0<1;lia
 |n+1=>G.noz (Good.pw_pos h0 hb n) (zaS G.hp G.hm _ _) h0 hb
theorem Good.pw_mod{x:Nat}(h0:0<x)(hx:x<p^m)(n:Nat):pw p m t x (n%(p^m-1))=pw p m t x n:=by
 have e:=Nat.div_add_mod n (p^m-1);have g:pw p m t x n=mul p m t (pw p m t x ((p^m-1)*(n/(p^m-1)))) (pw p m t x (n%(p^m-1))):=by rw[<-ybo G.hp G.hm,e]
 rw[g,za7 G.hp G.hm,G.fermat h0 hx,zcU G.hp G.hm,one_mul G.hp G.hm (zaS G.hp G.hm _ _)]
end
end Dg
end
section
-- text: MathD
namespace Dg
noncomputable def sumF(p m:Nat):Nat->(Nat->Nat)->Nat
 |0,_=>0
 |k+1,f=>add p m (sumF p m k f) (f k)
section
variable {p m t:Nat} (hp:2<=p) (hm:1<=m)
include hp hm
theorem yal:0<p^m:=xB1 (by lia)
theorem yeS(k:Nat)(f:Nat->Nat):sumF p m k f<p^m:=by
 cases k with
 |zero=>exact yal hp hm
 |succ k=>exact zbb hp hm _ _
theorem zbv(f:Nat->Nat)(k:Nat):∀d,(∀i,k<=i->i<k+d->f i=0)->sumF p m (k+d) f=sumF p m k f
 |0,_=>rfl
 |d+1,h=>by
  show add p m (sumF p m (k+d) f) (f (k+d))=_;rw[h (k+d) (by lia) (by lia),add_zero hp hm (yeS hp hm _ _),zbv f k d λi h1 h2=>h i h1 (by lia)]
theorem yay{f g:Nat->Nat}:∀k,(∀i,i<k->f i=g i)->sumF p m k f=sumF p m k g
 |0,_=>rfl
 |k+1,h=>by
  show add p m (sumF p m k f) (f k)=add p m (sumF p m k g) (g k);rw[yay k λi hi=>h i (by lia),h k (by lia)]
theorem zcO{f:Nat->Nat}(hf:∀i,f i<p^m):∀k,sumF p m (k+1) f=add p m (f 0) (sumF p m k λi=>f (i+1))
 |0=>by
  show add p m 0 (f 0)=add p m (f 0) 0;rw[add_comm hp hm]
 |k+1=>by
  show add p m (sumF p m (k+1) f) (f (k+1))=add p m (f 0) (add p m (sumF p m k λi=>f (i+1)) (f (k+1)));rw[zcO hf k,add_assoc hp hm]
end
noncomputable def conv(p m t:Nat)(xs ys:List Nat)(n:Nat):Nat:=sumF p m (n+1) λi=>mul p m t (xs.getD i 0) (ys.getD (n-i) 0)
noncomputable def ydz(p m t:Nat)(xs ys:List Nat)(k n:Nat):Nat:=sumF p m k λi=>if i<=n then mul p m t (xs.getD i 0) (ys.getD (n-i) 0) else 0
theorem yax{xs:List Nat}{i:Nat}(h:xs.length<=i):xs.getD i 0=0:=by simp[List.getD,h]
section
variable {p m t:Nat} (hp:2<=p) (hm:1<=m)
include hp hm
theorem ycw(xs ys:List Nat)(k n:Nat):ydz p m t xs ys k n<p^m:=yeS hp hm _ _
theorem zfy(xs ys:List Nat)(n:Nat):ydz p m t xs ys xs.length n=conv p m t xs ys n:=by
 unfold ydz conv
 rcases Nat.le_total xs.length (n+1) with h|h
 ·obtain⟨d,e⟩:∃d,n+1=xs.length+d:=⟨n+1-xs.length,by lia⟩
  rw[e,zbv hp hm _ xs.length d λi h1 h2=>by rw[yax h1,zero_mul hp hm]];exact yay hp hm _ λi hi=>by rw[if_pos (by lia)]
 ·obtain⟨d,e⟩:∃d,xs.length=n+1+d:=⟨xs.length-(n+1),by lia⟩
  rw[e,zbv hp hm _ (n+1) d λi h1 h2=>by rw[if_neg (by lia)]];exact yay hp hm _ λi hi=>by rw[if_pos (by lia)]
end
end Dg
end
section
-- text: MathE
namespace Dg
noncomputable def val(p m t x:Nat):List Nat->Nat
 | []=>0
 |a::r=>add p m (mul p m t (val p m t x r) x) a
section
variable {p m t:Nat} (hp:2<=p) (hm:1<=m)
include hp hm
theorem add_mul(x y z:Nat):mul p m t (add p m x y) z=add p m (mul p m t x z) (mul p m t y z):=by
 rw[mul_comm hp hm,mul_add hp hm,mul_comm hp hm z x,mul_comm hp hm z y]
theorem zb1(x:Nat)(l:List Nat):val p m t x l<p^m:=by
 cases l with
 |nil=>exact yal hp hm
 |cons a r=>exact zbb hp hm _ _
theorem ycb(z:Nat):∀(k:Nat) (f:Nat->Nat),sumF p m k (λi=>mul p m t (f i) z)=mul p m t (sumF p m k f) z
 |0,f=>(zero_mul hp hm z).symm
 |k+1,f=>by
  show add p m (sumF p m k λi=>mul p m t (f i) z) (mul p m t (f k) z)=mul p m t (add p m (sumF p m k f) (f k)) z;rw[ycb z k f,add_mul hp hm]
theorem zdi:∀(k:Nat) (f g:Nat->Nat),sumF p m k (λi=>add p m (f i) (g i))=add p m (sumF p m k f) (sumF p m k g)
 |0,f,g=>(add_zero hp hm (yal hp hm)).symm
 |k+1,f,g=>by
  show add p m (sumF p m k λi=>add p m (f i) (g i)) (add p m (f k) (g k))=add p m (add p m (sumF p m k f) (f k)) (add p m (sumF p m k g) (g k));rw[zdi k f g,add_assoc hp hm,add_assoc hp hm];congr 1;rw[<-add_assoc hp hm,add_comm hp hm (sumF p m k g) (f k),add_assoc hp hm]
theorem ya7{x:Nat}(hx:x<p^m):∀l:List Nat,(∀a∈l,a<p^m)->val p m t x l=sumF p m l.length λk=>mul p m t (l.getD k 0) (pw p m t x k)
 | [],_=>rfl
 |a::r,h=>by
  have ih:=ya7 hx r λb hb=>h b (xA7 _ hb)
  show add p m (mul p m t (val p m t x r) x) a=sumF p m (r.length+1) _;rw[zcO hp hm (λi=>zaA hp hm _ _)];have e0:mul p m t ((a::r).getD 0 0) (pw p m t x 0)=a:=mul_one hp hm (h a xAb);have e1:sumF p m r.length (λi=>mul p m t ((a::r).getD (i+1) 0) (pw p m t x (i+1)))=mul p m t (val p m t x r) x:=by
   rw[ih,<-ycb hp hm];refine yay hp hm _ λi hi=>?_
   show mul p m t (r.getD i 0) (mul p m t (pw p m t x i) x)=_;rw[mul_assoc hp hm]
  rw[e0,e1,add_comm hp hm]
end
end Dg
end
section
-- text: MathF
namespace Dg
noncomputable def zgz(p m t:Nat):Bool:=(List.range (p^m)).all λy=>pw p m t (add p m 1 y) p==add p m 1 (pw p m t y p)
noncomputable def zaG(p m:Nat):Nat->List (Nat×Nat)->Bool
 |_,[]=>true
 |t,c::cs=>(if c.2=0 then zgz p m t else true)&&zaG p m (t+1) cs
noncomputable def yhF:Bool:=yee.all λc=>if c.2.1=1 then true else zaG c.1 c.2.1 0 c.2.2
theorem zfv{α:Type}{f:α->Bool}{l:List α}(k:Nat)(a:(l.take k).all f=true)(b:(l.drop k).all f=true):l.all f=true:=by rw[<-List.take_append_drop k l,List.all_append,a,b];rfl
theorem zbC{p m:Nat}:∀(k t:Nat)(cs:List (Nat×Nat)),zaG p m t (cs.take k)=true->zaG p m (t+k) (cs.drop k)=true->zaG p m t cs=true
|0,_,_,_,h=>h
|_+1,_,[],_,_=>rfl
|k+1,t,c::cs,a,b=>by
 have a:((if c.2=0 then zgz p m t else true)&&zaG p m (t+1) (cs.take k))=true:=a;rw[xAx]at a;show((if c.2=0 then zgz p m t else true)&&zaG p m (t+1) cs)=true;rw[a.1,Bool.true_and];exact zbC k (t+1) cs a.2 (by rw[show t+1+k=t+(k+1) by lia];exact b)
noncomputable def yfC(c:Nat×Nat×List (Nat×Nat)):Bool:=if c.2.1=1 then true else zaG c.1 c.2.1 0 c.2.2
noncomputable def zgG:List (Nat×Nat):=(yee.getD 13 (0,0,[])).2.2
theorem yhC:(yee.take 13).all yfC=true:=by decide +kernel
theorem zhp:zaG 2 6 0 (zgG.take 20)=true:=by decide +kernel
theorem yhe:zaG 2 6 20 ((zgG.drop 20).take 20)=true:=by decide +kernel
theorem yhv:zaG 2 6 40 ((zgG.drop 20).drop 20)=true:=by decide +kernel
theorem zho:(yee.drop 14).all yfC=true:=by decide +kernel
theorem zhs:yfC (yee.getD 13 (0,0,[]))=true:=zbC 20 0 zgG zhp (zbC 20 20 _ yhe yhv)
theorem zhj:yhF=true:=zfv (f:=yfC) 13 yhC (zfv (f:=yfC) 1 ((Bool.and_true _).trans zhs) zho)
theorem ycj{p m:Nat}:∀(cs:List (Nat×Nat)) (t i:Nat) (c:Nat×Nat),zaG p m t cs=true->cs[i]?=some c->c.2=0->zgz p m (t+i)=true
 | [],_,_,_,_,h,_=>by cases h
 |d::cs,t,0,c,h,e,h0=>by
  cases e;unfold zaG at h;rw[xAx,if_pos h0]at h;exact h.1
 |d::cs,t,i+1,c,h,e,h0=>by
  unfold zaG at h;rw[xAx]at h;have:=ycj cs (t+1) i c h.2 e h0;rw[show t+(i+1)=t+1+i by lia];exact this
section
variable {p m t:Nat} (G:Good p m t)
include G
theorem Good.pw_q{x:Nat}(hx:x<p^m):pw p m t x (p^m)=x:=by
 have h1:=zax G.hp G.hm;rcases xAZ x with h|h
 ·rw[h,show p^m=(p^m-1)+1 by lia,zbZ G.hp G.hm]
 ·rw[show pw p m t x (p^m)=pw p m t x ((p^m-1)+1) by congr 1;lia,ybo G.hp G.hm,G.fermat h hx,ybR G.hp G.hm hx,one_mul G.hp G.hm hx]
theorem Good.frob1{y:Nat}(hy:y<p^m):pw p m t (add p m 1 y) p=add p m 1 (pw p m t y p):=by
 obtain⟨c,hc,e⟩:=xAg.mp G.mem;obtain⟨p',m',cs⟩:=c;obtain⟨rfl,rfl⟩:p'=p/\m'=m:=by simpa using e
 by_cases h1:m'=1
 ·subst h1;have e1:=G.pw_q (zbb (m:=1) G.hp G.hm 1 y);have e2:=G.pw_q hy;rw[Nat.pow_one]at e1 e2;rw[e1,e2]
 ·have g:=xB4.mp zcQ _ hc;have a:=xB4.mp zgW _ hc;have f:=xB4.mp zhj _ hc;rw[xAx]at g;have g:=g.2;dsimp only at g a f;rw[if_neg h1]at g f;have hl:cs.length=p'^m':=xAj g;have ht:t<cs.length:=by rw[hl];exact G.top
  have a1:=ybM cs 0 t cs[t] a (xA5 ht);rw[Nat.zero_add]at a1;unfold zez at a1;by_cases c0:cs[t].2=0
  ·have f1:=ycj cs 0 t cs[t] f (xA5 ht) c0;rw[Nat.zero_add]at f1;have:=xB4.mp f1 y (xAw.mpr hy);exact eq_of_beq this
  ·rw[if_neg c0,xAx]at a1;have b:=xAj a1.1;rcases G.no with h2|h2
   ·exact absurd h2 h1
   ·exact absurd (by simpa using a1.2) (h2 _ _ b.1 b.2.1 b.2.2.1 (by lia) b.2.2.2)
theorem Good.frob{x y:Nat}(hx:x<p^m)(hy:y<p^m):pw p m t (add p m x y) p=add p m (pw p m t x p) (pw p m t y p):=by
 have hp:=G.hp;have hm:=G.hm;rcases xAZ x with h|h
 ·rw[h,zero_add hp hm hy,show p=(p-1)+1 by lia,zbZ (by lia) (by lia),<-show p=(p-1)+1 by lia,zero_add hp hm (zaS hp hm _ _)]
 ·have hi:=zaS hp hm (t:=t) x (p^m-2);have e1:y=mul p m t x (mul p m t (pw p m t x (p^m-2)) y):=by
   rw[<-mul_assoc hp hm,mul_comm hp hm x,G.inv h hx,one_mul hp hm hy]
  have e2:add p m x y=mul p m t x (add p m 1 (mul p m t (pw p m t x (p^m-2)) y)):=by
   rw[mul_add hp hm,mul_one hp hm hx,<-e1]
  rw[e2,zdc hp hm,G.frob1 (zaA hp hm _ _),mul_add hp hm,mul_one hp hm (zaS hp hm _ _),<-zdc hp hm,<-e1]
theorem Good.frobN:∀(k:Nat) {x y:Nat},x<p^m->y<p^m->pw p m t (add p m x y) (p^k)=add p m (pw p m t x (p^k)) (pw p m t y (p^k))
 |0,x,y,hx,hy=>by
  rw[Nat.pow_zero,ybR G.hp G.hm (zbb G.hp G.hm _ _),ybR G.hp G.hm hx,ybR G.hp G.hm hy]
 |k+1,x,y,hx,hy=>by
  rw[xAD,za7 G.hp G.hm,za7 G.hp G.hm,za7 G.hp G.hm,Good.frobN k hx hy,G.frob (zaS G.hp G.hm _ _) (zaS G.hp G.hm _ _)]
end
end Dg
end
section
-- text: ExtRd
namespace L2
open PySem PySem.Spec PyProof.Rows
theorem yed{j:Int}(h0:0<=j)(h1:j<2^62):∀x:Int,-2<=x->x<=j->Builtin.Range.rangeFitsLong x=true:=λx h2 h3=>by
 unfold Builtin.Range.rangeFitsLong;rw[xAx];exact⟨xAG (by lia),xAG (by lia)⟩
theorem zf7{j:Int}(h0:0<=j):Builtin.Range.rangeSize 0 j 1=j:=by
 unfold Builtin.Range.rangeSize;rw[if_pos (by decide)];split <;> lia
theorem yfa(r:Addr)(j:Int)(t u v:Tok)(h0:0<=j)(h1:j<2^62) :
  Meets (Builtin.«range.__reversed__» ⟨[.ref r],[]⟩) (λ_ R s=>s.heap.get? r=some { cls:=.type "range",dict:=none,data:=.fields #[.int 0 t,.int j u,.int 1 v],slots:=#[] }/\R (.ok (.ret (Value.ref s.heap.objs.size))) { s with heap:=s.heap.push { cls:=Value.type "range_iterator",data:=.fields #[rawInt (j-1),rawInt j,rawInt (-1)] } }) :=
 .of_wp λprog w A R s h=>by
  obtain⟨hp,g,d,tk,os⟩:=s;obtain⟨hl,h⟩:=h;have hz:=zf7 h0;have f1:=yed h0 h1 0 (by lia) h0;have f2:=yed h0 h1 j (by lia) (Int.le_refl _);have f3:Builtin.Range.rangeFitsLong 1=true:=by decide
  have f4:Builtin.Range.rangeFitsLong (-1)=true:=by decide
  have f5:Builtin.Range.rangeFitsLong (0-1)=true:=by decide
  have hsm:(!(Builtin.Range.rangeFitsLong 0&&Builtin.Range.rangeFitsLong j&&Builtin.Range.rangeFitsLong 1&&Builtin.Range.rangeFitsLong (-1)&&Builtin.Range.rangeFitsLong (0-1)&&Builtin.Range.rangeFitsLong (Builtin.Range.rangeSize 0 j 1)))=false:=by
   rw[hz,f1,f2,f3,f4,f5];rfl
  have hsm2:(Builtin.Range.rangeFitsLong 0&&Builtin.Range.rangeFitsLong j&&Builtin.Range.rangeFitsLong 1&&Builtin.Range.rangeFitsLong (-1)&&Builtin.Range.rangeFitsLong (0-1)&&Builtin.Range.rangeFitsLong (Builtin.Range.rangeSize 0 j 1))=true:=by
   rw[hz,f1,f2,f3,f4,f5];rfl
  have hc0:¬ (!(Builtin.Range.rangeFitsLong 0&&Builtin.Range.rangeFitsLong j&&Builtin.Range.rangeFitsLong 1&&Builtin.Range.rangeFitsLong (-1)&&Builtin.Range.rangeFitsLong (0-1)&&Builtin.Range.rangeFitsLong (Builtin.Range.rangeSize 0 j 1)))=true:=by
   rw[hsm];decide
  wp_walk
  refine⟨_,rfl,?_⟩;rw[hsm2,if_pos rfl,hz,show(0:Int)+(j-1)*1=j-1 by lia];exact h
theorem yc2{prog:Program}{w:World}{A:Around}{E:Value->Shared->Prop}{s:Shared}{r:Addr}{j:Int}{t u v:Tok}{Q:Value->Shared->Prop}(h0:0<=j)(h1:j<2^62)(hr:IsRange s.heap r 0 j 1 t u v)
  (h:Q (.ref s.heap.objs.size) { s with heap:=s.heap.push { cls:=Value.type "range_iterator",data:=.fields #[rawInt (j-1),rawInt j,rawInt (-1)] } }):wpAny (model prog w) A (call (.builtin "range.__reversed__") [.ref r]) Q E s :=
 call_meets F.slot_range_reversed ⟨_,hr,rfl⟩ F.entry_range_reversed (F.args_range_reversed_1 _) (yfa r j t u v h0 h1) ⟨hr,h⟩
theorem ydh{prog:Program}{w:World}{A:Around}{E:Value->Shared->Prop}{s:Shared}{r:Addr}{j:Int}{t u v:Tok}{Q₁:Value->Shared->Prop}(h0:0<=j)(h1:j<2^62)(hr:IsRange s.heap r 0 j 1 t u v)
  (h:Q₁ (.ref s.heap.objs.size) { s with heap:=s.heap.push { cls:=Value.type "range_iterator",data:=.fields #[rawInt (j-1),rawInt j,rawInt (-1)] } }) :
  codeAny (model prog w) A (.call (.builtin "reversed.__new__") ⟨[.type "reversed",.ref r],[]⟩) (wants Q₁ E) s:=by
 have hT:s.TypeIs (.ref r) "range":=⟨_,hr,rfl⟩
 refine codeAny_of_tree ?_;show wpAny _ A.in1 (do checkBuiltinCall "reversed.__new__" ⟨[.type "reversed",.ref r],[]⟩;again (.builtin "reversed.__new__" ⟨[.type "reversed",.ref r],[]⟩)) _ _ s;refine xA1 (xBs (F.newCall_reversed_1 _) (xA3 ⟨plainId_quiet F.plain_reversed_new _,codeAny_builtin F.entry_reversed_new ?_⟩));rw[xBr F.plain_reversed_new _];unfold Builtin.«reversed.__new__»;refine xA1 (xBs (newClass_reversed _) ?_)
 try dsimp only
 refine xA1 (xBs (a:=()) (by first|rfl|kernel_rfl) ?_);refine xA1 (xBs (a:=()) (by first|rfl|kernel_rfl) ?_)
 try dsimp only
 refine xA1 (wpAny_specialOf hT F.slot_range_reversed.lookup ?_)
 try dsimp only
 refine xA1 (xBs (F.slot_range_reversed.bind _) ?_)
 try dsimp only
 first
 |rw[if_neg (show ¬ ((Value.builtin "range.__reversed__"==Value.none)=true) from xAo)]
 |(show wpAny _ _ (if (Value.builtin "range.__reversed__"==Value.none)=true then _ else _) _ _ _;rw[if_neg (show ¬ ((Value.builtin "range.__reversed__"==Value.none)=true) from xAo)])
 refine xA1 (xB9 ?_);refine xA1 (m:=runValue (.call (.builtin "range.__reversed__") ⟨[.ref r],[]⟩)) (show wpAny _ _ (call (.builtin "range.__reversed__") [.ref r]) _ _ _ from yc2 h0 h1 hr ?_)
 first
 |exact xA3 h
 |exact xA1 (xA3 (xA3 h))
theorem zco:isSubtype (.type "range_iterator") (.type "reversed")=pure false:=by rw[isSubtype_type];kernel_rfl
theorem zbU{prog:Program}{w:World}{A:Around}{E:Value->Shared->Prop}{s:Shared}{r:Addr}{j:Int}{t u v:Tok}{Q:Value->Shared->Prop}(h0:0<=j)(h1:j<2^62)(hr:IsRange s.heap r 0 j 1 t u v)
  (h:Q (.ref s.heap.objs.size) { s with heap:=s.heap.push { cls:=Value.type "range_iterator",data:=.fields #[rawInt (j-1),rawInt j,rawInt (-1)] } }):wpAny (model prog w) A (call (.type "reversed") [.ref r]) Q E s:=by
 refine callType_other (U:="range_iterator") (Q₁:=λobj s₁=>obj = .ref s.heap.objs.size/\s₁={ s with heap:=s.heap.push { cls:=Value.type "range_iterator",data:=.fields #[rawInt (j-1),rawInt j,rawInt (-1)] } }) (by decide +kernel) F.create_reversed ⟨_,_,F.mro_reversed⟩ F.made_reversed zco (F.typeCall_reversed_1 _) (ydh h0 h1 hr ⟨rfl,rfl⟩) ?_;rintro obj s₁ ⟨rfl,rfl⟩;exact⟨⟨_,xA6 _ rfl,rfl⟩,h⟩
section
variable {X:Cx}
noncomputable def yir(ta:TA):TI:=λσ H R=>ta σ H λvs H1=>∃(a:Addr) (n:Nat),vs=[.ref a]/\H1 a=some (.rng 0 (n:Int))/\n<=1000/\R (Itd ((n:Int)-1) n) H1
theorem yg6{a:Expr}{ta:TA}{p pos:Pos}{tg:Expr}(hg:Gl X "reversed")(hm:X.mg "reversed"=none)(ha:PA X [a] ta)(hs:starEach [a] X.env=[(false,eval a X.env)]:=by rfl) :
  PI X tg (.Call (.Name "reversed" p) [a] [] pos) (yir ta):=by
 intro pins s σ H R I h;refine Call_ (ybF I hg hm (u:=.type "reversed") zdg (xAY (thn (ha pos pins s σ H _ I h) λus s1 ⟨vs,H1,I1,r1,q1⟩=>?_) hs rfl));obtain⟨a,n,e,h1,hn,q⟩:=q1;subst e;cases r1 with
 |cons r rr=>
  cases rr;cases r;obtain⟨t,u,v,e⟩:=I1.hok a _ h1;refine zbU (Int.natCast_nonneg n) (by lia) e ?_;have hri:IsRangeIter (s1.heap.push { cls:=Value.type "range_iterator",data:=.fields #[rawInt ((n:Int)-1),rawInt (n:Int),rawInt (-1)] }) s1.heap.objs.size ((n:Int)-1+((0:Nat):Int)*(-1)) ((n:Int)-((0:Nat):Int)) (-1):=by
   have e1:(n:Int)-1+((0:Nat):Int)*(-1)=(n:Int)-1:=by simp
   have e2:(n:Int)-((0:Nat):Int)=(n:Int):=by simp
   rw[e1,e2];exact xA6 _ rfl
  refine wpAny_pyIter_rangeiter hri ?_;refine⟨s1.heap.objs.size,[s1.heap.objs.size],_,_,H1,rfl,I1.kept (t':=s1.toks) λb o e=>xA2 _ e,ydX _ ((n:Int)-1) n,hri,λb hb=>?_,q⟩;have e:b=s1.heap.objs.size:=by simpa using hb
  subst e;exact I1.fpOk (xA4 _) (I1.hok.fresh (xA4 _))
theorem yhs:IxR X (λx y H Q=>rIxL X.K x y H Q\/rIxT X.K x y H Q):=by
 intro value slice pins s σ H x y v u Q I rx ry h hs;rcases h with h|h
 ·exact zao value slice pins s σ H x y v u Q I rx ry h hs
 ·exact zas value slice pins s σ H x y v u Q I rx ry h hs
theorem yhi:SlR X (λx lo hi H Q=>rSlL X.K x lo hi H Q\/rSlA X.K x lo hi H Q):=SlR.or yef zg9
theorem zhg{tg l:Expr}{tl:TE}(hl:PE X l tl):PI X tg l (λσ H R=>yhD X.K tl σ H R\/iTup X.K tl σ H R):=by
 intro pins s σ H R I h;rcases h with h|h
 ·exact yaN hl pins s σ H R I h
 ·exact ycG hl pins s σ H R I h
end
end L2
end
section
-- text: ExtRh
namespace L2
open PySem PySem.Spec PyProof.Rows
section
variable {M:Model} {A:Around} {E:Value->Shared->Prop} {s:Shared}
end
section
variable {P:Program} {w:World} {K:PySem.W.Frag} {mg:Str->Option Value} {base:Heap} {N:List Str} {qual:Str} {scope:Scope} {f:Addr} {cd:Value} {A:Around} {outer:List Env} {s₀:Shared} {H₀:Hp} {E:XK}
end
end L2
end
section
-- text: ExtRi
namespace L2
open PySem PySem.Spec PyProof.Rows
section
variable {P:Program} {w:World} {K:PySem.W.Frag} {mg:Str->Option Value} {base:Heap} {N:List Str} {qual:Str} {scope:Scope} {f:Addr} {cd:Value} {A:Around} {outer:List Env} {s₀:Shared} {H₀:Hp} {E:XK}
end
section
variable {P:Program} {w:World} {K:PySem.W.Frag} {mg:Str->Option Value} {base:Heap} {N:List Str} {qual:Str} {scope:Scope} {f:Addr} {cd:Value} {A:Around} {outer:List Env} {s₀:Shared} {H₀:Hp} {E:XK}
end
section
variable {X:Cx} {pins pins':List (Addr×Obj)} {σ:St} {H:Hp} {s:Shared} {F:Addr->St->Hp->Prop} {a:Addr}
end
end L2
end
section
-- text: ExtRj
namespace L2
open PySem PySem.Spec PyProof.Rows PySem.W
section
variable {prog:Program} {w:World} {A:Around} {E:Value->Shared->Prop} {s:Shared} {K:Frag} {e C:Addr}
end
end L2
namespace L2
open PySem PySem.Spec PyProof.Rows PySem.W
section
variable {K:Frag} {mg:Str->Option Value} {Re By Nr Tm Nt Nl:Addr}
end
end L2
namespace L2
open PySem PySem.Spec PyProof.Rows
section
variable {X:Cx}
end
end L2
namespace L2
open PySem PySem.Spec PyProof.Rows
end L2
namespace L2
open PySem PySem.Spec PyProof.Rows
section
variable {X:Cx} {o e:Expr} {es:List Expr} {to:TE} {t:TA} {name:Str} {apos cpos:Pos} {T:String} {id:String} {r:V->List V->Hp->VK->Prop} {K:PySem.W.Frag}
end
end L2
end
section
-- text: ExtRk
namespace L2
open PySem PySem.Spec PyProof.Rows
section
variable {X:Cx}
end
end L2
namespace L2
open PySem PySem.Spec PyProof.Rows
section
variable {X:Cx}
end
end L2
end
section
-- text: ExtRl
namespace L2
open PySem PySem.Spec PyProof.Rows
section
variable {X:Cx}
end
end L2
namespace L2
open PySem PySem.Spec PyProof.Rows
section
variable {X:Cx}
noncomputable def zhV(K:PySem.W.Frag):List V->Hp->VK->Prop:=λvs H Q=>∃(a:Addr) (d:PyData),vs=[.ref a]/\RdN K H 10 (.ref a) d/\DOk d (2^20)/\Q (.str d.shown) H
theorem ybP(hg:X.A.guards=some [])(hu:X.A.units+64<cLine):zbR X (.builtin "repr") (zhV X.K):=by
 intro pins s σ H vs us Q I r h;obtain⟨a,d,rfl,hd,ok,q⟩:=h;obtain⟨u,rfl,rx⟩:=ycg r;cases rx;have R:=zeQ I 10 (.ref a) d (.ref a) hd rfl;refine repr_of_reads' R ok.sh (PyData.noDict_hsm ok.nd) hg (by have:=ok.dp;lia) (λ_ _ e=>e) (λh' u tk hk=>?_) (PyData.shown_fits (B:=8) (by decide) (by decide) ok.sl ok.we);exact⟨.str _,H,I.kept (λb o e=>hk b o e),⟨u,rfl⟩,q⟩
end
end L2
namespace L2
open PySem PySem.Spec PyProof.Rows PySem.W
section
variable {K:Frag} {mg:Str->Option Value} {Re By Nr Tm:Addr}
end
end L2
end
section
-- text: ExtRm
namespace L2
open PySem PySem.Spec PyProof.Rows
section
variable {M:Model} {A:Around} {E:Value->Shared->Prop} {s:Shared}
end
section
variable {X:Cx}
end
end L2
namespace L2
open PySem PySem.Spec PyProof.Rows
end L2
end
section
-- text: ExtRn
namespace L2
open PySem PySem.Spec PyProof.Rows
section
variable {X:Cx}
end
end L2
end
section
-- text: ExtRo
namespace L2
open PySem PySem.Spec PyProof.Rows
theorem yew(elt t1 i1 t2 i2:Expr)(scope:Scope)(pos:Pos)(it acc:Value)(env:Env) :
  compTurn (.ListComp elt [⟨t1,i1,[],0⟩,⟨t2,i2,[],0⟩] scope pos) 0 it acc env=(standAt i1.pos >>= λ_=>pyNext it >>= λr=>match r with
   |none=>pure (.done .next)
   |some v=>letOwnedTupleGo t1 it v >>= λ_=>assign t1 env v >>= λ_=>
    (eval i2 env >>= λx=>standAt i2.pos >>= λ_=>foldedSetIterable i2 env x >>= λx=>holding [x] (pyIter x) >>= λit2=>
     runOwn (.compStart (.ListComp elt [⟨t1,i1,[],0⟩,⟨t2,i2,[],0⟩] scope pos) 1 it2 acc env) env >>= λ_=>
     again (.compLoop (.ListComp elt [⟨t1,i1,[],0⟩,⟨t2,i2,[],0⟩] scope pos) 0 it acc env))):=by rfl
theorem zeh(elt t1 i1 t2 i2:Expr)(scope:Scope)(pos:Pos)(it acc:Value)(env:Env) :
  compTurn (.ListComp elt [⟨t1,i1,[],0⟩,⟨t2,i2,[],0⟩] scope pos) 1 it acc env=(standAt i2.pos >>= λ_=>pyNext it >>= λr=>match r with
   |none=>pure (.done .next)
   |some v=>letOwnedTupleGo t2 it v >>= λ_=>assign t2 env v >>= λ_=>
    (eval elt env >>= λx=>call (.builtin "list.append") [acc,x] >>= λ_=>pure ()) >>= λ_=>
     again (.compLoop (.ListComp elt [⟨t1,i1,[],0⟩,⟨t2,i2,[],0⟩] scope pos) 1 it acc env)):=by rfl
section
variable {prog:Program} {w:World} {A:Around} {R:Result->Shared->Prop} {s:Shared}
theorem zbX{elt t1 i1 t2 i2 scope pos it acc env}
  (h0:codeAny (model prog w) A (.compLoop (.ListComp elt [⟨t1,i1,[],0⟩,⟨t2,i2,[],0⟩] scope pos) 1 it acc env) R s)
  (h:wpAny (model prog w) A (pyIter it) (λit' s'=>codeAny (model prog w) A (.compLoop (.ListComp elt [⟨t1,i1,[],0⟩,⟨t2,i2,[],0⟩] scope pos) 1 it' acc env) R s')
   (notedBy (model prog w) A env λx s'=>R (.error x) s') s) :
  codeAny (model prog w) A (.compStart (.ListComp elt [⟨t1,i1,[],0⟩,⟨t2,i2,[],0⟩] scope pos) 1 it acc env) R s:=by
 refine codeAny_of_tree ?_;show wpAny _ _ ((compStart (.ListComp elt [⟨t1,i1,[],0⟩,⟨t2,i2,[],0⟩] scope pos) 1 it acc env).onRaise (λx=>do noteFrame x env;standAt theWindowsPlace)) _ _ s;refine wpAny_notedAt ?_;unfold compStart;show wpAny _ _ (ask >>= _) _ _ s;refine xA1 (wpAny_askSetting (wpAny_ite ?_));split
 ·first
   |exact xA1 (xA3 (xA3 (And.intro rfl h0)))
   |exact xA3 (And.intro rfl h0)
 ·first
   |exact xA1 (xB9 (xA1 (wpAny_standAt (xA1 (xAQ h (λit' s' h'=>xA3 (And.intro rfl h')) λ_ _ x=>x)))))
   |(refine xA1 (xB9 ?_);show wpAny _ _ (standAt i2.pos >>= _) _ _ s;exact xA1 (wpAny_standAt (xA1 (xAQ h (λit' s' h'=>xA3 (And.intro rfl h')) λ_ _ x=>x))))
theorem yeu{elt t1 i1 t2 i2:Expr}{scope:Scope}{pos:Pos}{it acc:Value}{env:Env}(I:Nat->Shared->Prop)
  (turn:∀n s,I n s->wpAny (model prog w) A (pyNext it) (λr s₁=>match r with
   |none=>R (.ok .next) s₁
   |some v=>wpAny (model prog w) A (letOwnedTupleGo t2 it v) (λ_ s₁'=>wpAny (model prog w) A (assign t2 env v) (λ_ s₂=>
     wpAny (model prog w) A (eval elt env) (λx s₄=>
      wpAny (model prog w) A (call (.builtin "list.append") [acc,x]) (λ_ s₅=>∃m,m<n/\I m s₅) (λ_ _=>False) s₄) (λ_ _=>False) s₂) (λ_ _=>False) s₁') (λ_ _=>False) s₁) (λ_ _=>False) s)
  (n:Nat) (h:I n s):codeAny (model prog w) A (.compLoop (.ListComp elt [⟨t1,i1,[],0⟩,⟨t2,i2,[],0⟩] scope pos) 1 it acc env) R s:=by
 refine codeAny_loop rfl I (λn s hI=>?_) n h;show wpAny _ A ((compTurn (.ListComp elt [⟨t1,i1,[],0⟩,⟨t2,i2,[],0⟩] scope pos) 1 it acc env).onRaise (λx=>do noteFrame x env;theTreesLotGoes x)) _ _ s;refine wpAny_noted (wpAny_noRaise ?_);rw[zeh];refine xA1 (wpAny_standAt (xA1 (xAQ (turn n s hI) (λr s₁ h₁=>?_) λ_ _ h'=>h')));cases r with
 |none=>exact xA3 h₁
 |some v=>
  refine xA1 (xAQ h₁ (λ_ s₁' h₁'=>?_) λ_ _ h'=>h');refine xA1 (xAQ h₁' (λ_ s₂ h₂=>?_) λ_ _ h'=>h');exact xA1 (xA1 (xAQ h₂ (λx s₄ h₄=>xA1 (xAQ h₄ (λ_ s₅ h₅=>xA3 (xA3 ⟨rfl,h₅⟩)) λ_ _ h'=>h')) λ_ _ h'=>h'))
theorem yej{elt t1 i1 t2 i2:Expr}{scope:Scope}{pos:Pos}{it acc:Value}{env:Env}(I:Nat->Shared->Prop)
  (turn:∀n s,I n s->wpAny (model prog w) A (pyNext it) (λr s₁=>match r with
   |none=>R (.ok .next) s₁
   |some v=>wpAny (model prog w) A (letOwnedTupleGo t1 it v) (λ_ s₁'=>wpAny (model prog w) A (assign t1 env v) (λ_ s₂=>
     wpAny (model prog w) A (eval i2 env) (λx s₃=>wpAny (model prog w) A (pyIter x) (λit2 s₄=>
      codeAny (model prog w) A (.compStart (.ListComp elt [⟨t1,i1,[],0⟩,⟨t2,i2,[],0⟩] scope pos) 1 it2 acc env) (λr s₅=>r = .ok .next/\∃m,m<n/\I m s₅) s₄) (λ_ _=>False) s₃) (λ_ _=>False) s₂) (λ_ _=>False) s₁') (λ_ _=>False) s₁) (λ_ _=>False) s)
  (n:Nat) (h:I n s) (hs:∀x,foldedSetIterable i2 env x=pure x):codeAny (model prog w) A (.compLoop (.ListComp elt [⟨t1,i1,[],0⟩,⟨t2,i2,[],0⟩] scope pos) 0 it acc env) R s:=by
 refine codeAny_loop rfl I (λn s hI=>?_) n h;show wpAny _ A ((compTurn (.ListComp elt [⟨t1,i1,[],0⟩,⟨t2,i2,[],0⟩] scope pos) 0 it acc env).onRaise (λx=>do noteFrame x env;theTreesLotGoes x)) _ _ s;refine wpAny_noted (wpAny_noRaise ?_);rw[yew];refine xA1 (wpAny_standAt (xA1 (xAQ (turn n s hI) (λr s₁ h₁=>?_) λ_ _ h'=>h')));cases r with
 |none=>exact xA3 h₁
 |some v=>
  refine xA1 (xAQ h₁ (λ_ s₁' h₁'=>?_) λ_ _ h'=>h');refine xA1 (xAQ h₁' (λ_ s₂ h₂=>?_) λ_ _ h'=>h');refine xA1 (xAQ h₂ (λx s₃ h₃=>?_) λ_ _ h'=>h');refine xA1 (wpAny_standAt (xA1 (xBs (hs x) (xA1 (xBf (xAQ h₃ (λit2 s₄ h₄=>?_) λ_ _ h'=>h'))))));refine xA1 (wpAny_runOwn (codeAny_mono h₄ λr s₅ h₅=>?_));obtain⟨rfl,h₅⟩:=h₅;exact xA3 ⟨rfl,h₅⟩
end
noncomputable def tIn(wi2:TI)(g2:TG)(te:TE)(acc:List V)(N:List V->Hp->Prop):St->Hp->Prop:=λσ H=>wi2 σ H λJ H1=>∃W:Nat->Nat->St->List V->Hp->Prop,(∃m,W 0 m σ acc H1)/\∀i m σ acc H,W i m σ acc H->
 (J.stop i H/\N acc H)\/
 (J.go i H/\acc.length<sizeLine/\∃N2:St->List V->Hp->Prop,(∀σ' acc' H',N2 σ' acc' H'->∃m',m'<m/\W (i+1) m' σ' acc' H')/\∀x H',J.yld i H x H'->g2 x σ H' λσ2 H2=>te σ2 H2 λv H3=>N2 σ2 (acc++[v]) H3)
noncomputable def zgU(wi:TI)(k:Nat)(ci:List Nat)(g:TG)(wi2:TI)(g2:TG)(te:TE):TE:=λσ H Q=>wi σ H λJ H1=>∃W:zgw,(∃m,W 0 m [] H1)/\∀i m acc H,W i m acc H->
 (J.stop i H/\∀D,H D=none->Q (.ref D) (upd H D (.lst acc)))\/
 (J.go i H/\∃N:List V->Hp->Prop,(∀acc' H',N acc' H'->∃m',m'<m/\W (i+1) m' acc' H')/\∀x H',J.yld i H x H'->g x (capσ k ci σ) H' λσ2 H2=>tIn wi2 g2 te acc N σ2 H2)
section
variable {X:Cx}
theorem zh9{elt t1 i1 t2 i2:Expr}{scope:Scope}{pos:Pos}{wi2:TI}{g2:TG}{te:TE}{pins:List (Addr×Obj)}{s:Shared}{σ:St}{H:Hp}{D:Addr}{vs:List V}{us:List Value}{k:Nat}{N:List V->Hp->Prop}
  (hxe:X.xe=λ_ _=>False) (hcalm:X.calm=true) (hi:PI X t2 i2 wi2) (hg:PG X t2 g2) (he:PE X elt te)
  (hDC:D≠X.env.locals) (hDfs:D∉X.fs) (hDcell:∀x c,X.env.cells.lookup x=some c->c≠D) (hDge:X.s₀.heap.objs.size<=D) (hDp:∀p∈X.pn++pins,p.1≠D)
  (I:Inv X pins σ H s) (fD:H D=none) (eD:s.heap.get? D=some { cls:=.type "list",data:=.seq us.toArray k }) (rv:Vals vs us) (z:vs.length<=sizeLine) (h:tIn wi2 g2 te vs N σ H) :
  wpAny (model X.prog X.w) X.A (eval i2 X.env) (λv s1=>wpAny (model X.prog X.w) X.A (pyIter v) (λitv s2=>
   codeAny (model X.prog X.w) X.A (.compStart (.ListComp elt [⟨t1,i1,[],0⟩,⟨t2,i2,[],0⟩] scope pos) 1 itv (.ref D) X.env)
    (λr s'=>r = .ok .next/\∃σ' vs' us' k' H',Inv X pins σ' H' s'/\H' D=none/\s'.heap.get? D=some { cls:=.type "list",data:=.seq us'.toArray k' }/\Vals vs' us'/\vs'.length<=sizeLine/\N vs' H') s2) (λ_ _=>False) s1) (λ_ _=>False) s:=by
 let pD:List Value->Nat->List (Addr×Obj):=λus k=>[(D,{ cls:=.type "list",data:=.seq us.toArray k })]
 have memD:∀ {us k},(D,({ cls:=.type "list",data:=.seq us.toArray k }:Obj))∈X.pn++(pins++pD us k):=λ{us k}=>xAc _ (xAc _ xAb)
 have pinD:∀ {σ':St} {H':Hp} {s':Shared} {us:List Value} {k:Nat},Inv X pins σ' H' s'->H' D=none->s'.heap.get? D=some { cls:=.type "list",data:=.seq us.toArray k }->Inv X (pins++pD us k) σ' H' s':=λ{σ' H' s' us k} J f e=>
  J.pins_of λp hp=>(xAE.mp hp).elim (λz=>J.pin p (xAc _ z)) λz=>by
   have:p=(D,{ cls:=.type "list",data:=.seq us.toArray k }):=by simpa[pD]using z
   subst this;exact⟨e,f,hDC,hDfs,λv z=>by cases z⟩
 have hi2:=hi (pins++pD us k) s σ H _ (pinD I fD eD) h;rw[hxe]at hi2;refine thn hi2 λv s1 h1=>thn h1 λitv s2 h2=>?_
 obtain⟨it,fp,tn,J,H2,e,I2,T,st2,f2,W,⟨m0,w0⟩,turn⟩:=h2;subst e;have hDfp:∀b∈fp,b≠D:=λb hb zz=>(f2 b hb).2.2.2.2.2 _ memD zz.symm
 have stat:∀ {H':Hp} {us:List Value} {k:Nat},(∀b∈fp,H' b=none)->∀b∈fp,FpOk X (pins++pD us k) H' b:=λ{H' us k} hn b hb=>by
  obtain⟨_,a2,a3,a4,a5,a6⟩:=f2 b hb;refine⟨hn b hb,a2,a3,a4,a5,λp hp=>?_⟩;rcases xAE.mp hp with zz|zz
  ·exact a6 p (xAK _ zz)
  ·rcases xAE.mp zz with zz|zz
   ·exact a6 p (xAc _ (xAK _ zz))
   ·have:p=(D,{ cls:=.type "list",data:=.seq us.toArray k }):=by simpa[pD]using zz
    subst this
    exactλq=>hDfp b hb q.symm
 have loop:codeAny (model X.prog X.w) X.A (.compLoop (.ListComp elt [⟨t1,i1,[],0⟩,⟨t2,i2,[],0⟩] scope pos) 1 (.ref it) (.ref D) X.env)
   (λr s'=>r = .ok .next/\∃σ' vs' us' k' H',Inv X pins σ' H' s'/\H' D=none/\s'.heap.get? D=some { cls:=.type "list",data:=.seq us'.toArray k' }/\Vals vs' us'/\vs'.length<=sizeLine/\N vs' H') s2:=by
  refine yeu (λn s'=>∃i σ' vs us k H',Inv X pins σ' H' s'/\tn i s'.heap/\(∀b∈fp,H' b=none)/\H' D=none/\s'.heap.get? D=some { cls:=.type "list",data:=.seq us.toArray k }/\Vals vs us/\vs.length<=sizeLine/\W i n σ' vs H') ?_ m0
   ⟨0,σ,vs,us,k,H2,I2.unpinned,st2,λb hb=>(f2 b hb).1,(I2.pin _ memD).2.1,(I2.pin _ memD).1,rv,z,w0⟩
  rintro n s3 ⟨i,σ3,vs3,us3,k3,H3,I3,st3,fr3,fD3,e3,rv3,z3,w3⟩;rcases turn i n σ3 vs3 H3 w3 with⟨stop,qn⟩ |⟨go,zl,N2,hN,step⟩
  ·refine thn (T.done X rfl rfl rfl hcalm i (pins++pD us3 k3) s3 σ3 H3 _ (pinD I3 fD3 e3) (stat fr3) st3 stop) λr s4 ⟨hr,I4⟩=>?_
   subst hr;exact⟨rfl,σ3,vs3,us3,k3,H3,I4.unpinned,fD3,(I4.pin _ memD).1,rv3,z3,qn⟩
  ·refine thn (T.item X rfl rfl rfl hcalm i (pins++pD us3 k3) s3 σ3 H3 _ (pinD I3 fD3 e3) (stat fr3) st3 go) λr s4 ⟨u,hr,h4⟩=>?_
   subst hr;refine thn h4 λ_ s5 ⟨x,H5,I5,r5,y5,st5,fr5⟩=>?_
   have I5':=I5.pinned (stat fr5) (T.obj _ _ st5);have hgg:=hg _ s5 σ3 H5 x u _ I5' r5 (step x H5 y5);rw[hxe]at hgg;refine thn hgg λ_ s6 ⟨σ6,H6,I6,q6⟩=>?_
   have hee:=he _ s6 σ6 H6 _ I6 q6;rw[hxe]at hee;refine thn hee λy s8 ⟨yv,H8,I8,r8,q8⟩=>?_
   obtain⟨m',hm,w8⟩:=hN _ _ _ q8;have e8:=I8.unpinned.pin _ memD;have pb:∀b∈fp,∀o,s5.heap.get? b=some o->s8.heap.get? b=some o/\H8 b=none:=λb hb o e=>by
    have:=I8.pin (b,o) (xAc _ (xAc _ (ya5 hb e)));exact⟨this.1,this.2.1⟩
   refine call_meets F.slot_list_append ⟨_,e8.1,rfl⟩ F.entry_list_append (F.args_list_append_2 _ _) (PySem.list_append D us3.toArray k3 y (by rw[xAa,<-rv3.length];exact z3)) ⟨e8.1,?_⟩;have q:=PySem.IsL.update e8.1 (·.push y);have J0:Inv X pins σ6 H8 s8:=I8.unpinned.unpinned;refine⟨m',hm,i+1,σ6,vs3++[yv],us3++[y],_,H8,J0.turned (it:=D) (t':=s8.toks) (λb o hb hu=>(xAW s8.heap _ (Ne.symm hb)).trans hu) e8.2.1 hDC (.inr hDge) hDcell hDp,?_,?_,e8.2.1,by simpa using q,rv3.append (.cons r8 .nil),by simp;lia,w8⟩
   ·exact T.keep _ _ _ st5 λb hb o e=>(xAW s8.heap _ (λzz=>hDfp b hb zz.symm)).trans (pb b hb o e).1
   ·intro b hb;obtain⟨o,e,_⟩:=T.obj _ _ st5 b hb;exact(pb b hb o e).2
 exact zbX loop (T.self X.A 0 _ _ _ st2 loop)
theorem zf2{elt target iter t2 i2:Expr}{scope:Scope}{pos:Pos}{tg cp:List Str}{ci:List Nat}{wi wi2:TI}{g g2:TG}{te:TE}
  {pins:List (Addr×Obj)} {s:Shared} {σ:St} {H:Hp} {Q:VK} {cl:List (Str×Addr)}
  (S:CSc X.N X.env.scope tg cp ci scope) (hcalm:X.calm=true) (hi:PI X target iter wi)
  (hcl1:∀n c,cl.lookup n=some c->X.env.cells.lookup n=some c) (hcl2:∀n,(n,NameKind.free)∈scope.names->∃c,cl.lookup n=some c)
  (hg:∀C fp s H,PG (cxC X (tg++cp) scope cl C fp s H) target g) (hi2:∀C fp s H,PI (cxC X (tg++cp) scope cl C fp s H) t2 i2 wi2) (hg2:∀C fp s H,PG (cxC X (tg++cp) scope cl C fp s H) t2 g2) (he:∀C fp s H,PE (cxC X (tg++cp) scope cl C fp s H) elt te)
  (hs2:∀env x,foldedSetIterable i2 env x=pure x) (I:Inv X pins σ H s) (h:zgU wi tg.length ci g wi2 g2 te σ H Q) :
  wpAny (model X.prog X.w) X.A (eval iter X.env) (λx s₁=>wpAny (model X.prog X.w) X.A (pyIter x) (λit s₂=>wpAny (model X.prog X.w) X.A (newList []) (λacc s₃=>
   wpAny (model X.prog X.w) X.A (newFunctionEnv scope X.env.globals cl [] X.env.qual none .none (some X.env)) (λcenv s₄=>
    codeAny (model X.prog X.w) X.A (.compStart (.ListComp elt [⟨target,iter,[],0⟩,⟨t2,i2,[],0⟩] scope pos) 0 it acc { cenv with scope:=relabel scope X.env })
     (λr s'=>∃D vs H',acc = .ref D/\r = .ok .next/\Inv X pins σ (upd H' D (.lst vs)) s'/\H' D=none/\Gone X pins (upd H' D (.lst vs)) s' cenv.locals/\∀D',H' D'=none->Q (.ref D') (upd H' D' (.lst vs))) s₄) X.xe s₃) X.xe s₂) X.xe s₁) X.xe s:=by
 refine thn (hi pins s σ H _ I h) λv s1 h1=>thn h1 λitv s2 h2=>?_
 obtain⟨it,fp,tn,J,H2,e,I2,T,st2,f2,W,⟨m0,w0⟩,turn⟩:=h2;subst e;refine xAN (wpAny_newFunctionEnv S.nocell (by intro y hy;simp at hy) (λh₁ hns₁ hsb₁=>?_) S.kind);dsimp only at hns₁ hsb₁ ⊢;generalize hHL:s2.heap.push { cls:=.type "list",dict:=none,data:=.seq ([]:List Value).toArray }=HL at hns₁ hsb₁ ⊢;have hC:HL.objs.size=s2.heap.objs.size+1:=by rw[<-hHL,xB6]
 generalize hD:s2.heap.objs.size=D at hC ⊢;generalize hCC:HL.objs.size=C at hns₁ hsb₁ hC ⊢;have hDC:D≠C:=by lia
 have old:∀b o,s2.heap.get? b=some o->h₁.get? b=some o:=λb o e=>by
  have lt:s2.heap.objs.size>=Nat.succ b:=xAd e;refine hsb₁.extBut b o (show @Ne Nat b C by lia) (xA2 _ (hHL ▸ xA2 _ e))
 have hD1:h₁.get? D=some { cls:=.type "list",data:=.seq ([]:List Value).toArray 0 }:=by
  refine hsb₁.extBut D _ hDC (xA2 _ ?_);rw[<-hHL,<-hD];exact xA6 _ rfl
 have fD:H2 D=none:=I2.hok.fresh (by lia);have fC:H2 C=none:=I2.hok.fresh (by lia)
 let X':Cx:=cxC X (tg++cp) scope cl C fp s2 H2
 have ok':X'.Ok:=by
  refine⟨I2.ok.mod,?_,I2.ok.glob,I2.ok.blt,?_,?_,?_,?_,I2.ok.hd,I2.ok.frames,.inl rfl,?_,I2.bs,xAB I2.ok.bsz I2.sz,?_,?_,I2.stack,I2.stkFree⟩
  ·exact S.kind
  ·show s2.heap.objs.size<=C;lia
  ·intro x y c hx hy;exact I2.ok.inj x y c (hcl1 x c hx) (hcl1 y c hy)
  ·intro x hx;have hx':(relabel scope X.env).names.lookup x=some .cell\/(relabel scope X.env).names.lookup x=some .free:=hx;have q:scope.names.lookup x=some .free\/scope.names.lookup x=some .cell:=by
    rcases hx' with z|z
    ·exact zaK z (.inl rfl)
    ·exact zaK z (.inr rfl)
   rcases q with q|q
   ·exact hcl2 x (yaQ q)
   ·exact absurd rfl (S.nocell _ (yaQ q))
  ·intro x c hx;cases hx
  ·intro b hb;obtain⟨o,eo,_⟩:=T.obj _ _ st2 b hb;have lt:s2.heap.objs.size>=Nat.succ b:=xAd eo;exact⟨by show @Ne Nat b C;lia,λx c hx=>(f2 b hb).2.2.2.2.1 x c (hcl1 x c hx)⟩
  ·intro b o e hb;rcases(f2 b hb).2.2.2.1 with z|z
   ·exact I2.ok.noex b o e z
   ·have l1:X.base.objs.size>=Nat.succ b:=xAd e;have l2:X.base.objs.size<=X.s₀.heap.objs.size:=I2.ok.bsz;have l3:X.s₀.heap.objs.size<=(b:Nat):=z;lia
  ·intro b hb hbs;rcases xA9.mp (I2.stkSub b hbs) with z|z
   ·exact(f2 b hb).2.1 z
   ·exact(f2 b hb).2.2.1 z
 have capLen:(capσ tg.length ci σ).length=X'.N.length:=by
  show(List.replicate tg.length none++ci.map λi=>(σ[i]?).join).length=(tg++cp).length;have:=congrArg List.length S.at_;simp only[xA0]at this;simp[this]
 have capLook:∀(h':Heap) (m':Str->Option Value),(∀x c o,X.env.cells.lookup x=some c->s2.heap.get? c=some o->∃sl,h'.get? c=some { o with slots:=sl })->
   ∀(i:Nat) (x:Str) (v:V),X'.N[i]?=some x->(capσ tg.length ci σ)[i]?=some (some v)->Vis X'.env.scope x->∃u,RelV v u/\Look X'.env h' m' x u:=by
  intro h' m' hcell i x v e1 e2 e3;have e1':(tg++cp)[i]?=some x:=e1;have e2':(List.replicate tg.length none++ci.map λi=>(σ[i]?).join)[i]?=some (some v):=e2;by_cases hi':i<tg.length
  ·rw[xBn (by simpa using hi'),List.getElem?_replicate]at e2';split at e2' <;> cases e2'
  ·rw[xAU (by simpa using hi'),xAq,xA8]at e2';rw[xAU (by lia)]at e1';cases hj:ci[i-tg.length]? with
   |none=>rw[hj]at e2';cases e2'
   |some j=>
    rw[hj]at e2';have e2'':(σ[j]?).join=some v:=xAv e2';have e4:σ[j]?=some (some v):=by
     cases q:σ[j]? with
     |none=>rw[q]at e2'';cases e2''
     |some z=>rw[q]at e2'';exact congrArg some e2''
    have e5:X.N[j]?=some x:=by
     have:=congrArg (·[i-tg.length]?) S.at_;simp only[xA8,hj,e1',Option.map_some]at this;exact xAv this
    have hx:scope.names.lookup x=some .free:=S.cap x (xBc e1');have hk:=S.free (x,.free) (yaQ hx) rfl;obtain⟨m,hn,hl⟩:=I2.loc;obtain⟨u,r,l⟩:=hl j x v e5 e4 (.inr hk);refine⟨u,r,.inr ⟨?_,?_⟩⟩
    ·exact ybG hx
    ·rcases l with⟨k1,_⟩ |⟨_,c,k2,k3⟩
     ·have k1':X.env.scope.names.lookup x=some .local:=k1;rcases hk with z|z <;> (rw[z]at k1';cases k1')
     ·obtain⟨c',hc'⟩:=hcl2 x (yaQ hx);have:=hcl1 x c' hc';rw[k2]at this;cases this;obtain⟨o,ho,hd⟩:=k3;obtain⟨sl,q⟩:=hcell x c o k2 ho;exact⟨c,hc',_,q,hd⟩
 have I':∀tk,Inv X' [] (capσ tg.length ci σ) H2 { s2 with heap:=h₁,toks:=tk }:=λtk=>by
  refine⟨ok',rfl,I2.bare,Un.kept old,⟨_,hns₁,capLook _ _ λx c o _ e=>⟨o.slots,old c o e⟩⟩,λx c hx=>?_,fC,λx c hx=>I2.freeC x c (hcl1 x c hx),λp hp=>absurd (show p∈([]:List (Addr×Obj)) from hp) (by simp),I2.hok.kept old,?_⟩
  ·obtain⟨v,o,ho,hd⟩:=I2.cell x c (hcl1 x c hx);exact⟨v,o,old c o ho,hd⟩
  ·exact capLen
 have recap:∀ {pl pl':List (Addr×Obj)} {σ':St} {H':Hp} {s':Shared},Inv X' (pl++pl') σ' H' s'->Inv X' pl (capσ tg.length ci σ) H' s':=λ{pl pl' σ' H' s'} J=>by
  obtain⟨m,hn,_⟩:=J.loc;have u:Un (frs X.stack) fp H2 H' s2.heap s'.heap:=J.base;exact⟨J.ok,J.os,J.bare,J.base,⟨m,hn,capLook _ _ λx c o hx e=>u.any e (I2.freeC x c hx) λhb=>(f2 c hb).2.2.2.2.1 x c hx rfl⟩,J.cell,J.free,J.freeC,
   λp hp=>(xAE.mp hp).elim (λz=>J.pin p (xAK _ z)) (λz=>J.pin p (xAc _ (xAK _ z))),J.hok,capLen⟩
 have stat:∀ {H':Hp},(∀b∈fp,H' b=none)->∀b∈fp,FpOk X' [] H' b:=λhn b hb=>by
  obtain⟨o,eo,_⟩:=T.obj _ _ st2 b hb;have lt:s2.heap.objs.size>=Nat.succ b:=xAd eo;exact⟨hn b hb,by show @Ne Nat b C;lia,ok'.exfs b hb,.inl hb,(ok'.exf b hb).2,λp hp=>absurd (show p∈([]:List (Addr×Obj)) from hp) (by simp)⟩
 have hDfp:D∉fp:=λhb=>by obtain⟨o,eo,_⟩:=T.obj _ _ st2 D hb;have lt:s2.heap.objs.size>=Nat.succ D:=xAd eo;lia
 have hDcell:∀x c,X'.env.cells.lookup x=some c->c≠D:=λx c hx=>by
  obtain⟨v,o,ho,hd⟩:=I2.cell x c (hcl1 x c hx);have lt:s2.heap.objs.size>=Nat.succ c:=xAd ho;intro z;have z':@Eq Nat c D:=z;lia
 have hDfs:D∉X'.fs:=λhb=>by
  have:D∈X.env.locals::X.fs:=I2.stkSub D hb;rcases xA9.mp this with z|z
  ·have l1:s2.heap.objs.size>=Nat.succ X.env.locals:=I2.lt;have z':@Eq Nat D X.env.locals:=z;lia
  ·exact I2.nofs (show s2.heap.objs.size<=D by lia) z
 have fin:∀ {pl:List (Addr×Obj)} {σ':St} {H':Hp} {s':Shared} {vs:List V} {us:List Value} {k:Nat},Inv X' pl σ' H' s'->H' D=none->s'.heap.get? D=some { cls:=.type "list",data:=.seq us.toArray k }->Vals vs us->vs.length<=sizeLine->
   (∀D',H' D'=none->Q (.ref D') (upd H' D' (.lst vs)))->
   ∃D' vs H',Value.ref D = .ref D'/\(Except.ok Flow.next:Result) = .ok .next/\Inv X pins σ (upd H' D' (.lst vs)) s'/\H' D'=none/\Gone X pins (upd H' D' (.lst vs)) s' C/\∀D',H' D'=none->Q (.ref D') (upd H' D' (.lst vs)):=by
  intro pl σ' H' s' vs us k J f e r z q;have u:Un (frs X.stack) fp H2 H' s2.heap s'.heap:=J.base;have lt:∀ {b:Addr} {o:Obj},s2.heap.get? b=some o->b≠D:=λ{b o} eb zb=>by
   have l1:s2.heap.objs.size>=Nat.succ b:=xAd eb;have l2:@Eq Nat b D:=zb;lia
  have u2:Un (frs X.stack) fp H2 (upd H' D (.lst vs)) s2.heap s'.heap :=
   ⟨u.keep,u.slot,λb o eb n hx=>by rw[yag (lt eb)];exact u.free b o eb n hx,u.there,
    λb xs eb=>by rw[yag (yaf eb fD)];exact u.tups b xs eb,λb o uu eb=>by rw[yag (yaf eb fD)];exact u.frzs b o uu eb,λb ps eb=>by rw[yag (yaf eb fD)];exact u.tbls b ps eb⟩
  have hok2:HOk X.prog X.w (upd H' D (.lst vs)) s'.heap:=λb o eb=>by
   by_cases hb:b=D
   ·subst hb;rw[yaa]at eb;cases eb;exact⟨z,us,k,r,e⟩
   ·rw[yag hb]at eb;refine(J.hok b o eb).stay (λ_ _ _ q=>q) (λc hc=>?_) λc xs hc=>?_
    ·rw[yag (λzz=>by rw[zz,f]at hc;cases hc)];exact hc
    ·rw[yag (λzz=>by rw[zz,f]at hc;cases hc)];exact hc
  refine⟨D,vs,H',rfl,rfl,I2.call' (ch:=fp) J.os u2 hok2 J.bare ?_,f,⟨?_,?_,?_,?_,?_,?_,?_⟩,q⟩
  ·intro b hb;obtain⟨_,a2,_,a4,a5,a6⟩:=f2 b hb;exact⟨a4,a2,a5,a6⟩
  ·obtain⟨m,hn,_⟩:=J.loc;exact⟨m,hn⟩
  ·rw[yag (Ne.symm hDC)];exact J.free
  ·have l1:s2.heap.objs.size>=Nat.succ X.env.locals:=I2.lt;intro zz;have zz':@Eq Nat C X.env.locals:=zz;lia
  ·have l1:X.s₀.heap.objs.size<=s2.heap.objs.size:=I2.sz;show X.s₀.heap.objs.size<=C;lia
  ·intro x c hx zz;obtain⟨v,o,ho,hd⟩:=I2.cell x c hx;have l1:s2.heap.objs.size>=Nat.succ c:=xAd ho;have zz':@Eq Nat c C:=zz;lia
  ·intro p hp zz;have l1:s2.heap.objs.size>=Nat.succ p.1:=xAd (I2.pin p hp).1;have zz':@Eq Nat p.1 C:=zz;lia
  ·exact I2.nofs (show s2.heap.objs.size<=C by lia)
 have loop:∀tk,codeAny (model X.prog X.w) X.A (.compLoop (.ListComp elt [⟨target,iter,[],0⟩,⟨t2,i2,[],0⟩] scope pos) 0 (.ref it) (.ref D) (compEnvC scope cl C X.env))
   (λr s'=>∃D' vs H',Value.ref D = .ref D'/\r = .ok .next/\Inv X pins σ (upd H' D' (.lst vs)) s'/\H' D'=none/\Gone X pins (upd H' D' (.lst vs)) s' C/\∀D',H' D'=none->Q (.ref D') (upd H' D' (.lst vs))) { s2 with heap:=h₁,toks:=tk }:=by
  intro tk;refine yej (λn s'=>∃i vs us k H',Inv X' [] (capσ tg.length ci σ) H' s'/\tn i s'.heap/\(∀b∈fp,H' b=none)/\H' D=none/\s'.heap.get? D=some { cls:=.type "list",data:=.seq us.toArray k }/\Vals vs us/\vs.length<=sizeLine/\W i n vs H') ?_ m0
   ⟨0,[],[],0,H2,I' tk,T.keep _ _ _ st2 (λb hb o e=>old b o e),λb hb=>(f2 b hb).1,fD,hD1,.nil,xB7 _,w0⟩ (hs2 _)
  rintro n s3 ⟨i,vs,us,k,H3,I3,st3,fr3,fD3,hD3,rv3,z3,w3⟩
  let pD:List (Addr×Obj):=[(D,{ cls:=.type "list",data:=.seq us.toArray k })]
  have pinD:∀ {σ':St} {H':Hp} {s':Shared},Inv X' [] σ' H' s'->H' D=none->s'.heap.get? D=some { cls:=.type "list",data:=.seq us.toArray k }->Inv X' pD σ' H' s':=λ{σ' H' s'} J f e=>
   J.pins_of λp hp=>by
    have:p=(D,{ cls:=.type "list",data:=.seq us.toArray k }):=by simpa[pD]using hp
    subst this;exact⟨e,f,hDC,hDfs,λv z=>by cases z⟩
  have statD:∀ {H':Hp},(∀b∈fp,H' b=none)->∀b∈fp,FpOk X' pD H' b:=λhn b hb=>by
   obtain⟨a1,a2,a3,a4,a5,_⟩:=stat hn b hb;refine⟨a1,a2,a3,a4,a5,λp hp=>?_⟩;have:p=(D,{ cls:=.type "list",data:=.seq us.toArray k }):=by
    have hp':p∈([]:List (Addr×Obj))++pD:=hp
    simpa[pD]using hp'
   subst this
   exactλz=>hDfp (by rw[show D=b from z];exact hb)
  rcases turn i n vs H3 w3 with⟨stop,qn⟩ |⟨go,N,hN,step⟩
  ·refine thn (T.done X' rfl rfl rfl hcalm i pD s3 _ H3 _ (pinD I3 fD3 hD3) (statD fr3) st3 stop) λr s4 ⟨hr,I4⟩=>?_
   subst hr;have eD:s4.heap.get? D=some { cls:=.type "list",data:=.seq us.toArray k }:=(I4.pin (D,_) (by simp[pD])).1;exact fin I4 fD3 eD rv3 z3 qn
  ·refine thn (T.item X' rfl rfl rfl hcalm i pD s3 _ H3 _ (pinD I3 fD3 hD3) (statD fr3) st3 go) λr s4 ⟨u,hr,h4⟩=>?_
   subst hr;refine thn h4 λ_ s5 ⟨x,H5,I5,r5,y5,st5,fr5⟩=>?_
   have I5':=I5.pinned (statD fr5) (T.obj _ _ st5);refine thn (hg C fp s2 H2 _ s5 _ H5 x u _ I5' r5 (step x H5 y5)) λ_ s6 ⟨σ6,H6,I6,q6⟩=>?_
   have e6:=I6.pin (D,_) (xAc _ (xAK _ (by simp[pD] <;> rfl)));have I6':Inv X' (zcm fp s5.heap) σ6 H6 s6:=I6.pins_of λp hp=>I6.pin p (xAc _ (xAc _ hp))
   refine thn (zh9 (X:=X') rfl hcalm (hi2 C fp s2 H2) (hg2 C fp s2 H2) (he C fp s2 H2) hDC hDfs hDcell (show s2.heap.objs.size<=D by lia) (λp hp=>?_) I6' e6.2.1 e6.1 rv3 z3 q6) λv s7 h7=>thn h7 λitv s8 h8=>codeAny_mono h8 λr s9 ⟨hr,σ',vs',us',k',H',J,f',e',rv',z',n'⟩=>?_
   ·have hp':p∈([]:List (Addr×Obj))++zcm fp s5.heap:=hp;obtain⟨hb,_⟩:=yd6 (by simpa using hp')
    exactλzz=>hDfp (by rw[<-zz];exact hb)
   obtain⟨m',hm,w'⟩:=hN _ _ n';have pb:∀b∈fp,∀o,s5.heap.get? b=some o->s9.heap.get? b=some o/\H' b=none:=λb hb o e=>by
    have:=J.pin (b,o) (xAc _ (ya5 hb e));exact⟨this.1,this.2.1⟩
   refine⟨hr,m',hm,i+1,vs',us',k',H',recap (pl:=[]) (pl':=zcm fp s5.heap) J,T.keep _ _ _ st5 λb hb o e=>(pb b hb o e).1,λb hb=>?_,f',e',rv',z',w'⟩;obtain⟨o,e,_⟩:=T.obj _ _ st5 b hb;exact(pb b hb o e).2
 exact codeAny_compStart_list (loop _) (T.self X.A 0 _ _ _ (T.keep _ _ _ st2 (λb hb o e=>old b o e)) (loop _))
theorem zgk{i:Nat}{y:Str}{py:Pos}{elt target iter t2 i2:Expr}{scope:Scope}{pos spos:Pos}{tg cp:List Str}{ci:List Nat}{wi wi2:TI}{g g2:TG}{te:TE}
  (hN:X.N.Nodup) (hi':X.N[i]?=some y) (hy:Loc X.env.scope y)
  (S:CSc X.N X.env.scope tg cp ci scope) (hcalm:X.calm=true) (hi:PI X target iter wi)
  (hg:∀cl C fp s H,PG (cxC X (tg++cp) scope cl C fp s H) target g) (hi2:∀cl C fp s H,PI (cxC X (tg++cp) scope cl C fp s H) t2 i2 wi2) (hg2:∀cl C fp s H,PG (cxC X (tg++cp) scope cl C fp s H) t2 g2) (he:∀cl C fp s H,PE (cxC X (tg++cp) scope cl C fp s H) elt te)
  (hsw:swapsWith (.ListComp elt [⟨target,iter,[],0⟩,⟨t2,i2,[],0⟩] scope pos) (some (.Name y py)) spos.line X.env=pure true:=by rfl)
  (hs:∀x,foldedSetIterable iter X.env x=pure x:=by intro _;rfl) (hs2:∀env x,foldedSetIterable i2 env x=pure x:=by intro _ _;rfl) (hf:X.fn y=true\/X.env.scope.names.lookup y=some .local:=by first|exact .inl rfl|exact .inr rfl|assumption) :
  PS X (.Assign [.Name y py] (.ListComp elt [⟨target,iter,[],0⟩,⟨t2,i2,[],0⟩] scope pos) spos) (tAsg (zgU wi tg.length ci g wi2 g2 te) (yau i)):=by
 intro pins s σ H D I h;obtain⟨cl,hclos,h1,h2⟩:=ya6 (scope:=scope) (env:=X.env) λx hx hf=>I.ok.has x.1 (S.free x hx hf)
 rw[exec_Assign_Name_used _ _ _ _ hsw];refine xA1 (wpAny_standAt (xA1 ?_));show wpAny _ X.A (do let _ <-comprehension (.ListComp elt [⟨target,iter,[],0⟩,⟨t2,i2,[],0⟩] scope pos) scope X.env _ (newList []) false (eval iter X.env) (some (assign (.Name y py) X.env))) _ _ s;refine xA1 (xAQ (wpAny_comprehension_free (use:=some (assign (.Name y py) X.env)) (Q:=λ_ s'=>SP X pins D .next s') rfl hs hclos S.kind S.loc
  (thn (zf2 S hcalm hi h1 h2 (hg cl) (hi2 cl) (hg2 cl) (he cl) hs2 I h) λx s1 q1=>thn q1 λit s2 q2=>thn q2 λacc s3 q3=>thn q3 λcenv s4 q4=>codeAny_mono q4 λr s' q=>?_)) (λ_ s' hq=>xA3 (xA3 hq)) λ_ _ e=>e)
 obtain⟨D',vs,H',e1,e2,I',f,G,q⟩:=q;subst e1 e2;show wpAny _ X.A (assign (.Name y py) X.env (.ref D')) _ _ _;obtain⟨m,o,es,ep,ho,hd,hk⟩:=G.ns;have pin:Inv X ((cenv.locals,o)::pins) σ (upd H' D' (.lst vs)) s':=I'.pins_of λp hp=>by
  rcases xA9.mp hp with z|z
  ·subst z;exact⟨ho,G.free,G.ne,G.nofs,λv z=>by rw[hd]at z;cases z⟩
  ·exact I'.pin p (xAc _ z)
 refine wpAny_assign_Name (yaX (v:=V.ref D') pin hN hi' hy (show RelV (.ref D') (.ref D') from rfl) (λs2 I2=>?_) hf);have I3:Inv X pins (σ.set i (some (.ref D'))) (upd H' D' (.lst vs)) s2:=I2.pins_of λp hp=>I2.pin p (xAc _ (xA7 _ hp))
 have e2:=I2.pin (cenv.locals,o) (xAc _ xAb);have G2:Gone X pins (upd H' D' (.lst vs)) s2 cenv.locals:=⟨⟨m,o,es,ep,e2.1,hd,hk⟩,G.free,G.ne,G.ab,G.cells,G.pins,G.nofs⟩
 exact⟨m,⟨o,es,ep,e2.1,hd,hk⟩,λh' hsb=>⟨_,_,G2.turned I3 hsb,q D' f⟩⟩
end
theorem zfx{J:It}{n:Nat}{G:Hp->Prop}{y:Nat->V->Hp->Hp->Prop}(S:Seqs J n G y){σc:St}{g:TG}{In:List V->(List V->Hp->Prop)->St->Hp->Prop}{H:Hp}{Fn:List V->Hp->Prop}(Pv:Nat->List V->Hp->Prop)(h0:Pv 0 [] H)(hl:∀i acc H,i<=n->Pv i acc H->G H)
  (hs:∀i acc x H H',i<n->Pv i acc H->y i x H H'->g x σc H' λσ2 H2=>In acc (Pv (i+1)) σ2 H2)
  (hd:∀acc H,Pv n acc H->Fn acc H) :
  ∃W:zgw,(∃m,W 0 m [] H)/\∀i m acc H,W i m acc H->
   (J.stop i H/\Fn acc H)\/
   (J.go i H/\∃N:List V->Hp->Prop,(∀acc' H',N acc' H'->∃m',m'<m/\W (i+1) m' acc' H')/\∀x H',J.yld i H x H'->g x σc H' λσ2 H2=>In acc N σ2 H2):=by
 refine⟨λi m acc H=>m=n-i/\i<=n/\Pv i acc H,⟨n,by simp,xB7 _,h0⟩,?_⟩;rintro i m acc H ⟨rfl,hi,p⟩;by_cases hlt:i<n
 ·exact .inr ⟨S.go i H hlt (hl i acc H hi p),Pv (i+1),λacc' H' p'=>⟨n-(i+1),by lia,rfl,hlt,p'⟩,λx H' q=>hs i acc x H H' hlt p (S.yld i H x H' hlt (hl i acc H hi p) q)⟩
 ·have e:i=n:=by lia
  subst e;exact .inl ⟨S.stop H (hl _ acc H hi p),hd acc H p⟩
theorem zh5{J:It}{n:Nat}{G:Hp->Prop}{y:Nat->V->Hp->Hp->Prop}(S:Seqs J n G y){g:TG}{te:TE}{σ:St}{acc:List V}{H:Hp}{N:List V->Hp->Prop}(Pv:Nat->St->List V->Hp->Prop)(h0:Pv 0 σ acc H)(hl:∀i σ acc H,i<=n->Pv i σ acc H->G H)
  (hz:∀i σ acc H,i<n->Pv i σ acc H->acc.length<sizeLine)
  (hs:∀i σ acc x H H',i<n->Pv i σ acc H->y i x H H'->g x σ H' λσ2 H2=>te σ2 H2 λv H3=>Pv (i+1) σ2 (acc++[v]) H3)
  (hd:∀σ acc H,Pv n σ acc H->N acc H) :
  ∃W:Nat->Nat->St->List V->Hp->Prop,(∃m,W 0 m σ acc H)/\∀i m σ acc H,W i m σ acc H->
   (J.stop i H/\N acc H)\/
   (J.go i H/\acc.length<sizeLine/\∃N2:St->List V->Hp->Prop,(∀σ' acc' H',N2 σ' acc' H'->∃m',m'<m/\W (i+1) m' σ' acc' H')/\∀x H',J.yld i H x H'->g x σ H' λσ2 H2=>te σ2 H2 λv H3=>N2 σ2 (acc++[v]) H3):=by
 refine⟨λi m σ acc H=>m=n-i/\i<=n/\Pv i σ acc H,⟨n,by simp,xB7 _,h0⟩,?_⟩;rintro i m σ acc H ⟨rfl,hi,p⟩;by_cases hlt:i<n
 ·exact .inr ⟨S.go i H hlt (hl i σ acc H hi p),hz i σ acc H hlt p,Pv (i+1),λσ' acc' H' p'=>⟨n-(i+1),by lia,rfl,hlt,p'⟩,λx H' q=>hs i σ acc x H H' hlt p (S.yld i H x H' hlt (hl i σ acc H hi p) q)⟩
 ·have e:i=n:=by lia
  subst e;exact .inl ⟨S.stop H (hl _ σ acc H hi p),hd σ acc H p⟩
end L2
end
section
-- text: ExtRp
namespace L2
open PySem PySem.Spec PyProof.Rows
section
open PySem.SeqAt
open PySem.AutoSeq1 (wpAny_loadPart')
open PySem.MeetsSeq PySem.MeetsSeq2 PySem.MeetsSeq3
end
section
variable {X:Cx}
end
end L2
end
section
-- text: ExtRq
namespace L2
open PySem PySem.Spec PyProof.Rows
section
variable {X:Cx}
end
end L2
end
section
-- text: ExtRu
namespace L2
open PySem PySem.W PySem.Calls PyProof.Rows
local macro_rules | `(tactic| ac_rfl) => `(tactic| first | lia | (dsimp only; lia))
noncomputable def zhh:Bool->Keyed->Array Keyed->Nat->Nat->Nat->StateT SortSt Sem (Option Nat):=sortPriv% PySem.Builtin.gallop
noncomputable def ygH:Array Keyed->Array Keyed->StateT SortSt Sem (Array Keyed):=sortPriv% PySem.Builtin.mergeLo
noncomputable def ygO:Array Keyed->Array Keyed->StateT SortSt Sem (Array Keyed):=sortPriv% PySem.Builtin.mergeHi
section
variable {prog:Program} {w:World} {A:Around} {E:Value->Shared->Prop} {s:Shared} {κ:SortKind}
theorem S_if{α σ:Type}{M:Model}{c:Prop}[Decidable c]{m₁ m₂:StateT σ Sem α}{Q:α->σ->Prop}{st:σ}(h₁:c->wpS M A E s m₁ Q st)(h₂:¬ c->wpS M A E s m₂ Q st):wpS M A E s (if c then m₁ else m₂) Q st:=by
 split
 ·exact h₁ ‹_›
 ·exact h₂ ‹_›
theorem ybY{β σ:Type}{M:Model}{a b:Nat}{f:Nat->β->StateT σ Sem (ForInStep β)}(I:Nat->β->σ->Prop)(R:β->σ->Prop){Q:β->σ->Prop}{c:β}{st:σ}(h:I a c st)(hend:∀c st,I (max a b) c st->R c st)(hq:∀c st,R c st->Q c st)
  (hstep:∀i c st,a<=i->i<b->I i c st->wpS M A E s (f i c) (λr st'=>match r with | .done c'=>R c' st' | .yield c'=>I (i+1) c' st') st):wpS M A E s (forIn [a:b] c f) Q st:=wpS_mono (wpS_forRange (Q:=R) I hstep hend h) hq
noncomputable def Answ(prog:Program)(w:World)(A:Around)(s:Shared)(κ:SortKind)(g:Keyed->Prop):Prop:=∀(x y:Keyed) (C:Bool->Shared->Prop),g x->g y->(∀b,C b s)->wpAny (model prog w) A (keyLt' κ x.1 y.1) C (λ_ _=>False) s
variable {g:Keyed->Prop} (hA:Answ prog w A s κ g)
include hA
theorem S_lt{st:SortSt}{x y:Keyed}{Q:Option Bool->SortSt->Prop}(hk:kindOf st=κ)(gx:g x)(gy:g y)(h:∀b,Q (some b) st):wpS (model prog w) A E s (lt' x y) Q st:=by
 rw[lt'_eq];refine xAh (wpS_get ?_);rw[hk];refine xAh (wpS_lift (wpAny_attempt (xAQ (hA x y (λb s'=>s'=s/\∃c,b=c) gx gy λb=>⟨rfl,b,rfl⟩) (λb s' hb=>?_) λ_ _ e=>e.elim)));obtain⟨rfl,_⟩:=hb;exact⟨rfl,xAp (h b)⟩
omit hA in
theorem zaI{st:SortSt}{a:Array Keyed}{i:Nat}{Q:Keyed->SortSt->Prop}(hi:i<a.size)(h:Q a[i] st):wpS (model prog w) A E s (elem' a i) Q st:=by
 rw[elem'_eq,xAM hi];exact xAp h
theorem zh7{st:SortSt}{i j:Nat}{Q:Option Bool->SortSt->Prop}(hk:kindOf st=κ)(hi:i<(arrOf st).size)(hj:j<(arrOf st).size)(gs:∀x∈(arrOf st).toList,g x)(h:∀b,Q (some b) st):wpS (model prog w) A E s (ltAt' i j) Q st:=by
 rw[ltAt'_eq];refine xAh (wpS_get ?_);refine xAh (zaI hi (xAh (zaI hj ?_)));exact S_lt hA hk (gs _ (by simp)) (gs _ (by simp)) h
omit hA in
theorem gd{a:Array Keyed}(gs:∀x∈a.toList,g x){i:Nat}(hi:i<a.size):g a[i]:=gs _ (by simp)
noncomputable def beyG(left:Bool)(key:Keyed)(a:Array Keyed)(j:Nat):StateT SortSt Sem (Option Bool):=elem' a j >>= λx=>if left=true then lt' x key else lt' key x >>= λr=>pure (r.map λb=>!b)
theorem zgH{st:SortSt}{left:Bool}{key:Keyed}{a:Array Keyed}{j:Nat}{Q:Option Bool->SortSt->Prop}(hk:kindOf st=κ)(gk:g key)(gs:∀x∈a.toList,g x)(hj:j<a.size)(h:∀b,Q (some b) st):wpS (model prog w) A E s (beyG left key a j) Q st:=by
 refine xAh (zaI hj ?_);cases left
 ·exact xAh (S_lt hA hk gk (gd gs hj) λb=>xAp (h _))
 ·exact S_lt hA hk (gd gs hj) gk h
theorem zbP{st:SortSt}{left:Bool}{key:Keyed}{a:Array Keyed}{base n hint:Nat}{Q:Option Nat->SortSt->Prop}(hk:kindOf st=κ)(gk:g key)(gs:∀x∈a.toList,g x)(hb:base+n<=a.size)(hh:hint<n)(h:∀k,k<=n->Q (some k) st):wpS (model prog w) A E s (zhh left key a base n hint) Q st:=by
 have fin:∀(lo hi:Nat),hi<=n->wpS (model prog w) A E s (forIn [:n] ((none,lo,hi):Option (Option Nat)×Nat×Nat) λ_ z=>if z.2.1>=z.2.2 then pure (ForInStep.done (none,z.2.1,z.2.2)) else beyG left key a (base+(z.2.1+(z.2.2-z.2.1)/2)) >>= λr=>match r with
   |some c=>if c=true then pure (ForInStep.yield (none,z.2.1+(z.2.2-z.2.1)/2+1,z.2.2)) else pure (ForInStep.yield (none,z.2.1,z.2.1+(z.2.2-z.2.1)/2))
   |_=>pure (ForInStep.done (some none,z.2.1,z.2.2))) (λz st'=>st'=st/\z.1=none/\z.2.2<=n) st:=by
  intro lo hi h1;refine wpS_forRange (λ_ (z:Option (Option Nat)×Nat×Nat) st'=>st'=st/\z.1=none/\z.2.2<=n) ?_ (λ_ _ x=>x) ⟨rfl,rfl,h1⟩;rintro i ⟨r,lo,hi⟩ st' _ _ ⟨rfl,e,h1⟩;dsimp only at e h1 ⊢;split
  ·exact xAp ⟨rfl,rfl,h1⟩
  ·refine xAh (zgH hA hk gk gs (by lia) λc=>?_);cases c
   ·exact xAp ⟨rfl,rfl,(by ac_rfl)⟩
   ·exact xAp ⟨rfl,rfl,h1⟩
 refine xAh ?_;refine zgH (j:=base+hint) hA hk gk gs (by lia) λc=>?_
 cases c
 ·refine xAh (ybY (λ_ z st'=>st'=st/\z.1=none) (λz st'=>st'=st/\z.1=none) ⟨rfl,rfl⟩ (λ_ _ x=>x) ?_ ?_)
  rotate_left
  ·rintro i ⟨r,lo,hi⟩ st' _ _ ⟨rfl,e⟩;dsimp only at e ⊢;split
   ·exact xAp ⟨rfl,rfl⟩
   ·refine xAh (zgH (j:=base+(hint-hi)) hA hk gk gs (by lia) λc=>?_);cases c
    ·exact xAp ⟨rfl,rfl⟩
    ·exact xAp ⟨rfl,rfl⟩
  ·rintro⟨r,lo,hi⟩ st' ⟨rfl,e⟩;dsimp only at e;subst e;refine xAh (wpS_mono (fin _ _ (by lia)) ?_);rintro⟨r,lo',hi'⟩ st'' ⟨rfl,e,h1⟩;dsimp only at e h1;subst e;exact xAp (h _ h1)
 ·refine xAh (ybY (λ_ z st'=>st'=st/\z.1=none) (λz st'=>st'=st/\z.1=none) ⟨rfl,rfl⟩ (λ_ _ x=>x) ?_ ?_)
  rotate_left
  ·rintro i ⟨r,lo,hi⟩ st' _ _ ⟨rfl,e⟩;dsimp only at e ⊢;split
   ·exact xAp ⟨rfl,rfl⟩
   ·refine xAh (zgH (j:=base+(hint+hi)) hA hk gk gs (by lia) λc=>?_);cases c
    ·exact xAp ⟨rfl,rfl⟩
    ·exact xAp ⟨rfl,rfl⟩
  ·rintro⟨r,lo,hi⟩ st' ⟨rfl,e⟩;dsimp only at e;subst e;refine xAh (wpS_mono (fin _ _ (by lia)) ?_);rintro⟨r,lo',hi'⟩ st'' ⟨rfl,e,h1⟩;dsimp only at e h1;subst e;exact xAp (h _ h1)
end
theorem nbeq{x y:Nat}(h:¬ (x==y)=true):x≠y:=λe=>h (by rw[e];exact xBo _)
theorem pm1{α:Type}(o U A D:List α):(o++U++A++D).Perm (o++A++(U++D)):=by
 rw[xB5,xB5,xB5];refine List.Perm.append_left o ?_;rw[<-xB5,<-xB5];exact List.Perm.append_right D List.perm_append_comm
theorem zh3{α:Type}{a:Array α}{i:Nat}(h:i<a.size):a.toList.drop i=a[i]::a.toList.drop (i+1):=by
 rw[List.drop_eq_getElem_cons (by simpa using h)];rfl
theorem ygZ{α:Type}(a:Array α)(i k:Nat):a.toList.drop i=(a.extract i (i+k)).toList++a.toList.drop (i+k):=by
 rw[Array.toList_extract,List.extract_eq_take_drop,Nat.add_sub_cancel_left,<-List.drop_drop,List.take_append_drop]
theorem ydk{α:Type}(a:Array α)(i:Nat):(a.extract i a.size).toList=a.toList.drop i:=by
 rw[Array.toList_extract,List.extract_eq_take_drop,List.take_of_length_le (by simp)]
noncomputable def MJ(a b:Array Keyed)(c:Nat)(o:Array Keyed)(i j:Nat):Prop:=(o.toList++a.toList.drop i++b.toList.drop j).Perm (a.toList++b.toList)/\j<b.size/\i+1<a.size/\c<=i+j
section
variable {a b o:Array Keyed} {i j:Nat} {X:List Keyed}
theorem mj_b(h:(o.toList++a.toList.drop i++b.toList.drop j).Perm X)(hj:j<b.size):((o.push b[j]).toList++a.toList.drop i++b.toList.drop (j+1)).Perm X:=by
 rw[zh3 hj]at h;rw[Array.toList_push];exact(pm1 _ [b[j]] _ _).trans h
theorem mj_a(h:(o.toList++a.toList.drop i++b.toList.drop j).Perm X)(hi:i<a.size):((o.push a[i]).toList++a.toList.drop (i+1)++b.toList.drop j).Perm X:=by
 rw[zh3 hi]at h;rw[Array.toList_push]
 simpa using h
theorem zij(k:Nat)(h:(o.toList++a.toList.drop i++b.toList.drop j).Perm X):((o++b.extract j (j+k)).toList++a.toList.drop i++b.toList.drop (j+k)).Perm X:=by
 rw[ygZ b j k]at h;rw[xB2];exact(pm1 _ _ _ _).trans h
theorem yio(k:Nat)(h:(o.toList++a.toList.drop i++b.toList.drop j).Perm X):((o++a.extract i (i+k)).toList++a.toList.drop (i+k)++b.toList.drop j).Perm X:=by
 rw[ygZ a i k]at h;rw[xB2]
 simpa using h
theorem ycE(h:(o.toList++a.toList.drop i++b.toList.drop j).Perm X):(o++a.extract i a.size++b.extract j b.size).toList.Perm X:=by
 rw[xB2,xB2,ydk,ydk];exact h
theorem zdv(h:(o.toList++a.toList.drop i++b.toList.drop j).Perm X):(o++b.extract j b.size++a.extract i a.size).toList.Perm X:=by
 rw[xB2,xB2,ydk,ydk];refine List.Perm.trans ?_ h;rw[xB5,xB5];exact List.Perm.append_left _ List.perm_append_comm
end
noncomputable def MR(a b:Array Keyed)(c:Nat)(r:Option (Array Keyed))(o:Array Keyed)(i j:Nat):Prop:=(∃x,r=some x/\x.toList.Perm (a.toList++b.toList))\/(r=none/\MJ a b c o i j)
noncomputable def Sm(st st':SortSt):Prop:=kindOf st'=kindOf st/\arrOf st'=arrOf st/\pendingOf st'=pendingOf st/\failedOf st'=failedOf st
section
variable {prog:Program} {w:World} {A:Around} {E:Value->Shared->Prop} {s:Shared} {κ:SortKind}
variable {g:Keyed->Prop} (hA:Answ prog w A s κ g)
include hA
theorem ygd{st:SortSt}{a b:Array Keyed}{Q:Array Keyed->SortSt->Prop}(hk:kindOf st=κ)(ga:∀x∈a.toList,g x)(gb:∀x∈b.toList,g x)(na:0<a.size)(nb:0<b.size)(h:∀r st',r.toList.Perm (a.toList++b.toList)->Sm st st'->Q r st'):wpS (model prog w) A E s (ygH a b) Q st:=by
 refine xAh (wpS_lift (xB9 ⟨rfl,?_⟩));refine xAh (zaI nb ?_);have p0:((#[b[0]]:Array Keyed).toList++a.toList.drop 0++b.toList.drop 1).Perm (a.toList++b.toList):=mj_b (o:=#[]) (i:=0) (j:=0) (by simp) nb;refine S_if (λ_=>xAp (h _ _ (ycE p0) ⟨rfl,rfl,rfl,rfl⟩)) λc1=>?_
 refine S_if (λ_=>xAp (h _ _ (zdv p0) ⟨rfl,rfl,rfl,rfl⟩)) λc2=>?_
 have c1':1≠b.size:=λe=>c1 (by rw[<-e];rfl)
 have c2':0+1≠a.size:=λe=>c2 (by rw[<-e];rfl)
 refine xAh (wpS_get ?_);refine xAh (ybY (λi z st'=>Sm st st'/\z.1=none/\MJ a b (i+1) z.2.1 z.2.2.1 z.2.2.2.1) (λz st'=>Sm st st'/\∃x,z.1=some x/\x.toList.Perm (a.toList++b.toList)) ⟨⟨rfl,rfl,rfl,rfl⟩,rfl,p0,(by ac_rfl),(by ac_rfl),(by ac_rfl)⟩ ?_ ?_ ?_)
 ·rintro⟨r,o,i,j,m⟩ st' ⟨_,_,p,q1,q2,q3⟩
  exfalso
  dsimp only at q1 q2 q3;lia
 ·rintro⟨r,o,i,j,m⟩ st' ⟨e,x,e2,p⟩;dsimp only at e2;subst e2;exact xAp (h _ _ p e)
 rintro c ⟨r,o,i,j,m⟩ st' _ _ ⟨e0,e1,p⟩;refine xAh (ybY (λk z st'=>Sm st st'/\z.1=none/\MJ a b (c+1+k) z.2.1 z.2.2.1 z.2.2.2.1) (λz st'=>Sm st st'/\MR a b (c+1+1) z.1 z.2.1 z.2.2.1 z.2.2.2.1) ⟨e0,rfl,p⟩ ?_ ?_ ?_)
 ·rintro⟨r,o,i,j,m⟩ st' ⟨e,e1,p,q1,q2,q3⟩;dsimp only at q1 q2 q3 e1;exact⟨e,.inr ⟨e1,p,q1,q2,(by ac_rfl)⟩⟩
 rotate_left
 ·rintro k ⟨r,o,i,j,ac,bc⟩ st' _ _ ⟨e0,e1,p,q1,q2,q3⟩;dsimp only at e1 p q1 q2 q3;have q2':i<a.size:=by lia
  refine xAh (zaI q1 (xAh (zaI q2' (xAh (S_lt hA (e0.1.trans hk) (gd gb q1) (gd ga q2') λc=>?_)))));cases c
  ·refine xAh (zaI (a:=a) (i:=i) (by lia) ?_);have p':=mj_a p (by lia);refine S_if (λ_=>xAp ⟨e0,.inl ⟨_,rfl,zdv p'⟩⟩) λc3=>?_
   have c3':i+1+1≠a.size:=λe=>c3 (by rw[e];exact xBo _)
   refine S_if (λ_=>xAp ⟨e0,.inr ⟨rfl,p',q1,(by ac_rfl),(by ac_rfl)⟩⟩) λ_=>xAp ⟨e0,rfl,p',q1,(by ac_rfl),(by ac_rfl)⟩
  ·refine xAh (zaI (a:=b) (i:=j) (by lia) ?_);have p':=mj_b p q1;refine S_if (λ_=>xAp ⟨e0,.inl ⟨_,rfl,ycE p'⟩⟩) λc3=>?_
   have c3':j+1≠b.size:=λe=>c3 (by rw[e];exact xBo _)
   refine S_if (λ_=>xAp ⟨e0,.inr ⟨rfl,p',(by ac_rfl),q2,(by ac_rfl)⟩⟩) λ_=>xAp ⟨e0,rfl,p',(by ac_rfl),q2,(by ac_rfl)⟩
 rintro⟨r,o,i,j,ac,bc⟩ st1 ⟨e0,⟨x,e,px⟩ |⟨e1,p⟩⟩
 ·dsimp only at e;subst e;exact xAp ⟨e0,_,rfl,px⟩
 dsimp only at e1 p;subst e1;refine xAh (wpS_lift (xB9 ⟨rfl,?_⟩));refine xAh (ybY (λ_ z st'=>Sm st st'/\z.1=none/\MJ a b (c+1+1) z.2.1 z.2.2.1 z.2.2.2.1) (λz st'=>Sm st st'/\MR a b (c+1+1) z.1 z.2.1 z.2.2.1 z.2.2.2.1) ⟨e0,rfl,p⟩ ?_ ?_ ?_)
 ·rintro⟨r,o,i,j,m⟩ st' ⟨e,e1,p⟩;exact⟨e,.inr ⟨e1,p⟩⟩
 ·rintro⟨r,o,i,j,m,ac,bc⟩ st1 ⟨e0,⟨x,e,px⟩ |⟨e1,p⟩⟩
  ·dsimp only at e;subst e;exact xAp ⟨e0,_,rfl,px⟩
  dsimp only at e1 p;subst e1;exact xAh (wpS_modify (xAp ⟨e0,rfl,p⟩))
 rintro k ⟨r,o,i,j,m,ac,bc⟩ st1 _ _ ⟨e0,e1,p,q1,q2,q3⟩;dsimp only at e1 p q1 q2 q3;refine S_if (λ_=>?_) λ_=>?_
 all_goals
  refine xAh (wpS_modify (xAh (zaI q1 (xAh (zbP hA (e0.1.trans hk) (gd gb q1) ga (base:=i) (n:=a.size-i) (hint:=0) (by ac_rfl) (by ac_rfl) λk hk1=>S_if (λ_=>?_) λ_=>?_)))));have P1:=yio k p;refine S_if (λ_=>xAp ⟨e0,.inl ⟨_,rfl,zdv P1⟩⟩) λc1=>S_if (λ_=>xAp ⟨e0,.inl ⟨_,rfl,ycE P1⟩⟩) λc2=>?_
  have c1':=nbeq c1;have c2':=nbeq c2;dsimp only at c1' c2';have Q2:i+k<a.size:=by lia
  rotate_left
  have P1:=p;have Q2:i<a.size:=by lia
  all_goals
   have P2:=mj_b P1 q1;refine xAh (zaI q1 (S_if (λ_=>xAp ⟨e0,.inl ⟨_,rfl,ycE P2⟩⟩) λc3=>?_));have c3':=nbeq c3;dsimp only at c3';refine xAh (zaI Q2 (xAh (zbP hA (e0.1.trans hk) (gd ga Q2) gb (base:=j+1) (n:=b.size-(j+1)) (hint:=0) (by ac_rfl) (by ac_rfl) λk2 hk2=>S_if (λ_=>?_) λ_=>?_)));have P3:=zij k2 P2;refine S_if (λ_=>xAp ⟨e0,.inl ⟨_,rfl,ycE P3⟩⟩) λc4=>?_
   have c4':=nbeq c4;dsimp only at c4'
   rotate_left
   have P3:=P2
   all_goals
    have P4:=mj_a P3 Q2;refine xAh (zaI Q2 (S_if (λ_=>xAp ⟨e0,.inl ⟨_,rfl,zdv P4⟩⟩) λc5=>?_));have c5':=nbeq c5;dsimp only at c5';exact S_if (λ_=>xAp ⟨e0,.inr ⟨rfl,P4,(by ac_rfl),(by ac_rfl),(by ac_rfl)⟩⟩) λ_=>xAp ⟨e0,rfl,P4,(by ac_rfl),(by ac_rfl),(by ac_rfl)⟩
end
theorem yia{α:Type}{a:Array α}{n:Nat}(h:0<n)(h2:n<=a.size):a.toList.take n=a.toList.take (n-1)++[a[n-1]]:=by
 have e:n=n-1+1:=by lia
 have h3:n-1<a.toList.length:=by rw[xAm];lia
 conv=>lhs;rw[e,xBi h3]
 rfl
theorem yeT{α:Type}(a:Array α){k n:Nat}(h:k<=n):a.toList.take n=a.toList.take k++(a.extract k n).toList:=by
 rw[Array.toList_extract,List.extract_eq_take_drop,List.take_drop];have e:k+(n-k)=n:=by lia
 rw[e];have:=(List.take_append_drop k (a.toList.take n)).symm
 rwa [List.take_take,Nat.min_eq_left h]at this
theorem ygR{α:Type}(a:Array α)(n:Nat):(a.extract 0 n).toList=a.toList.take n:=by
 rw[Array.toList_extract,List.extract_eq_take_drop,List.drop_zero,Nat.sub_zero]
noncomputable def HJ(a b:Array Keyed)(c:Nat)(o:Array Keyed)(i j:Nat):Prop:=(a.toList.take i++b.toList.take j++o.toList.reverse).Perm (a.toList++b.toList)/\1<=i/\i<=a.size/\2<=j/\j<=b.size/\i+j+c<=a.size+b.size
section
variable {a b o:Array Keyed} {i j:Nat} {X:List Keyed}
theorem hj_a(h:(a.toList.take i++b.toList.take j++o.toList.reverse).Perm X)(h0:0<i)(hi:i<=a.size):(a.toList.take (i-1)++b.toList.take j++(o.push a[i-1]).toList.reverse).Perm X:=by
 rw[yia h0 hi]at h;rw[Array.toList_push,List.reverse_append];exact(pm1 _ [a[i-1]] _ _).symm.trans h
theorem hj_b(h:(a.toList.take i++b.toList.take j++o.toList.reverse).Perm X)(h0:0<j)(hj:j<=b.size):(a.toList.take i++b.toList.take (j-1)++(o.push b[j-1]).toList.reverse).Perm X:=by
 rw[yia h0 hj]at h;rw[Array.toList_push,List.reverse_append]
 simpa using h
theorem yik{k:Nat}(h:(a.toList.take i++b.toList.take j++o.toList.reverse).Perm X)(hk:k<=i)(hi:i<=a.size):(a.toList.take k++b.toList.take j++(o++(a.extract k i).reverse).toList.reverse).Perm X:=by
 rw[yeT a hk]at h;rw[xB2,List.reverse_append,Array.toList_reverse,List.reverse_reverse];exact(pm1 _ _ _ _).symm.trans h
theorem yij{k:Nat}(h:(a.toList.take i++b.toList.take j++o.toList.reverse).Perm X)(hk:k<=j)(hj:j<=b.size):(a.toList.take i++b.toList.take k++(o++(b.extract k j).reverse).toList.reverse).Perm X:=by
 rw[yeT b hk]at h;rw[xB2,List.reverse_append,Array.toList_reverse,List.reverse_reverse]
 simpa using h
theorem ycM(h:(a.toList.take i++b.toList.take j++o.toList.reverse).Perm X):(a.extract 0 i++b.extract 0 j++o.reverse).toList.Perm X:=by
 rw[xB2,xB2,ygR,ygR,Array.toList_reverse];exact h
theorem ycu(h:(a.toList.take i++b.toList.take j++o.toList.reverse).Perm X):(b.extract 0 j++a.extract 0 i++o.reverse).toList.Perm X:=by
 rw[xB2,xB2,ygR,ygR,Array.toList_reverse];exact(List.Perm.append_right _ List.perm_append_comm).trans h
end
noncomputable def HR(a b:Array Keyed)(c:Nat)(r:Option (Array Keyed))(o:Array Keyed)(i j:Nat):Prop:=(∃x,r=some x/\x.toList.Perm (a.toList++b.toList))\/(r=none/\HJ a b c o i j)
section
variable {prog:Program} {w:World} {A:Around} {E:Value->Shared->Prop} {s:Shared} {κ:SortKind}
variable {g:Keyed->Prop} (hA:Answ prog w A s κ g)
include hA
theorem ygf{st:SortSt}{a b:Array Keyed}{Q:Array Keyed->SortSt->Prop}(hk:kindOf st=κ)(ga:∀x∈a.toList,g x)(gb:∀x∈b.toList,g x)(na:0<a.size)(nb:0<b.size)(h:∀r st',r.toList.Perm (a.toList++b.toList)->Sm st st'->Q r st'):wpS (model prog w) A E s (ygO a b) Q st:=by
 refine xAh (wpS_lift (xB9 ⟨rfl,?_⟩));refine xAh (zaI (a:=a) (i:=a.size-1) (by lia) ?_);have p0:(a.toList.take (a.size-1)++b.toList.take b.size++(#[a[a.size-1]]:Array Keyed).toList.reverse).Perm (a.toList++b.toList):=by
  refine hj_a (o:=#[]) (i:=a.size) ?_ na (xA4 _);rw[List.take_of_length_le (by simp),List.take_of_length_le (by simp)];simp
 refine S_if (λ_=>xAp (h _ _ (ycM p0) ⟨rfl,rfl,rfl,rfl⟩)) λc1=>?_
 refine S_if (λ_=>xAp (h _ _ (ycu p0) ⟨rfl,rfl,rfl,rfl⟩)) λc2=>?_
 have c1':=nbeq c1;have c2':=nbeq c2;refine xAh (wpS_get ?_);refine xAh (ybY (λi z st'=>Sm st st'/\z.1=none/\HJ a b (i+1) z.2.2.2.1 z.2.1 z.2.2.1) (λz st'=>Sm st st'/\∃x,z.1=some x/\x.toList.Perm (a.toList++b.toList)) ⟨⟨rfl,rfl,rfl,rfl⟩,rfl,p0,(by ac_rfl),(by ac_rfl),(by ac_rfl),(by ac_rfl),(by ac_rfl)⟩ ?_ ?_ ?_)
 ·rintro⟨r,na,nb,o,m⟩ st' ⟨_,_,p,q1,q2,q3,q4,q5⟩
  exfalso
  dsimp only at q1 q2 q3 q4 q5;lia
 ·rintro⟨r,na,nb,o,m⟩ st' ⟨e,x,e2,p⟩;dsimp only at e2;subst e2;exact xAp (h _ _ p e)
 rintro c ⟨r,na,nb,o,m⟩ st' _ _ ⟨e0,e1,p⟩;refine xAh (ybY (λk z st'=>Sm st st'/\z.1=none/\HJ a b (c+1+k) z.2.2.2.1 z.2.1 z.2.2.1) (λz st'=>Sm st st'/\HR a b (c+1+1) z.1 z.2.2.2.1 z.2.1 z.2.2.1) ⟨e0,rfl,p⟩ ?_ ?_ ?_)
 ·rintro⟨r,na,nb,o,m⟩ st' ⟨e,e1,p,q1,q2,q3,q4,q5⟩;dsimp only at q1 q2 q3 q4 q5 e1;exact⟨e,.inr ⟨e1,p,q1,q2,q3,q4,(by ac_rfl)⟩⟩
 rotate_left
 ·rintro k ⟨r,na,nb,o,ac,bc⟩ st' _ _ ⟨e0,e1,p,q1,q2,q3,q4,q5⟩;dsimp only at e1 p q1 q2 q3 q4 q5;have r1:nb-1<b.size:=by lia
  have r2:na-1<a.size:=by lia
  refine xAh (zaI r1 (xAh (zaI r2 (xAh (S_lt hA (e0.1.trans hk) (gd gb r1) (gd ga r2) λc=>?_)))));cases c
  ·refine xAh (zaI r1 ?_);have p':=hj_b p (by lia) q4;refine S_if (λ_=>xAp ⟨e0,.inl ⟨_,rfl,ycu p'⟩⟩) λc3=>?_
   have c3':=nbeq c3;dsimp only at c3';refine S_if (λ_=>xAp ⟨e0,.inr ⟨rfl,p',q1,q2,(by ac_rfl),(by ac_rfl),(by ac_rfl)⟩⟩) λ_=>xAp ⟨e0,rfl,p',q1,q2,(by ac_rfl),(by ac_rfl),(by ac_rfl)⟩
  ·refine xAh (zaI r2 ?_);have p':=hj_a p q1 q2;refine S_if (λ_=>xAp ⟨e0,.inl ⟨_,rfl,ycM p'⟩⟩) λc3=>?_
   have c3':=nbeq c3;dsimp only at c3';refine S_if (λ_=>xAp ⟨e0,.inr ⟨rfl,p',(by ac_rfl),(by ac_rfl),q3,q4,(by ac_rfl)⟩⟩) λ_=>xAp ⟨e0,rfl,p',(by ac_rfl),(by ac_rfl),q3,q4,(by ac_rfl)⟩
 rintro⟨r,na,nb,o,ac,bc⟩ st1 ⟨e0,⟨x,e,px⟩ |⟨e1,p⟩⟩
 ·dsimp only at e;subst e;exact xAp ⟨e0,_,rfl,px⟩
 dsimp only at e1 p;subst e1;refine xAh (wpS_lift (xB9 ⟨rfl,?_⟩));refine xAh (ybY (λ_ z st'=>Sm st st'/\z.1=none/\HJ a b (c+1+1) z.2.2.2.1 z.2.1 z.2.2.1) (λz st'=>Sm st st'/\HR a b (c+1+1) z.1 z.2.2.2.1 z.2.1 z.2.2.1) ⟨e0,rfl,p⟩ ?_ ?_ ?_)
 ·rintro⟨r,na,nb,o,m⟩ st' ⟨e,e1,p⟩;exact⟨e,.inr ⟨e1,p⟩⟩
 ·rintro⟨r,na,nb,o,m,ac,bc⟩ st1 ⟨e0,⟨x,e,px⟩ |⟨e1,p⟩⟩
  ·dsimp only at e;subst e;exact xAp ⟨e0,_,rfl,px⟩
  dsimp only at e1 p;subst e1;exact xAh (wpS_modify (xAp ⟨e0,rfl,p⟩))
 rintro k ⟨r,na,nb,o,m,ac,bc⟩ st1 _ _ ⟨e0,e1,p,q1,q2,q3,q4,q5⟩;dsimp only at e1 p q1 q2 q3 q4 q5;have r1:nb-1<b.size:=by lia
 refine S_if (λ_=>?_) λ_=>?_
 all_goals
  refine xAh (wpS_modify (xAh (zaI r1 (xAh (zbP hA (e0.1.trans hk) (gd gb r1) ga (base:=0) (n:=na) (hint:=na-1) (by ac_rfl) (by ac_rfl) λk hk1=>S_if (λ_=>?_) λ_=>?_)))));have P1:=yik p hk1 q2;refine S_if (λ_=>xAp ⟨e0,.inl ⟨_,rfl,ycM P1⟩⟩) λc1=>?_
  have c1':=nbeq c1;have Q2:k-1<a.size:=by lia
  have Q3:0<k:=by lia
  have Q4:k<=a.size:=by lia
  rotate_left
  have P1:=p;have Q2:na-1<a.size:=by lia
  have Q3:=q1;have Q4:=q2
  all_goals
   have P2:=hj_b P1 (by ac_rfl) q4;refine xAh (zaI r1 (S_if (λ_=>xAp ⟨e0,.inl ⟨_,rfl,ycu P2⟩⟩) λc3=>?_));have c3':=nbeq c3
   try dsimp only at c3'
   refine xAh (zaI Q2 (xAh (zbP hA (e0.1.trans hk) (gd ga Q2) gb (base:=0) (n:=nb-1) (hint:=nb-1-1) (by ac_rfl) (by ac_rfl) λk2 hk2=>S_if (λ_=>?_) λ_=>?_)));have P3:=yij (k:=k2) P2 (by ac_rfl) (by ac_rfl);refine S_if (λ_=>xAp ⟨e0,.inl ⟨_,rfl,ycu P3⟩⟩) λc4=>S_if (λ_=>xAp ⟨e0,.inl ⟨_,rfl,ycM P3⟩⟩) λc6=>?_
   have c4':=nbeq c4;have c6':=nbeq c6
   rotate_left
   have P3:=P2
   all_goals
    have P4:=hj_a P3 Q3 Q4;refine xAh (zaI Q2 (S_if (λ_=>xAp ⟨e0,.inl ⟨_,rfl,ycM P4⟩⟩) λc5=>?_));have c5':=nbeq c5
    try dsimp only at c5'
    exact S_if (λ_=>xAp ⟨e0,.inr ⟨rfl,P4,(by ac_rfl),(by ac_rfl),(by ac_rfl),(by ac_rfl),(by ac_rfl)⟩⟩) λ_=>xAp ⟨e0,rfl,P4,(by ac_rfl),(by ac_rfl),(by ac_rfl),(by ac_rfl),(by ac_rfl)⟩
end
end L2
end
section
-- text: ExtRv
namespace L2
open PySem PySem.W PySem.Calls PyProof.Rows
local macro_rules | `(tactic| ac_rfl) => `(tactic| first | lia | (dsimp only; lia))
noncomputable def Pm(st st':SortSt):Prop:=kindOf st'=kindOf st/\pendingOf st'=pendingOf st/\failedOf st'=failedOf st/\(arrOf st').toList.Perm (arrOf st).toList
theorem Pm.rfl{st:SortSt}:Pm st st:=⟨Eq.refl _,Eq.refl _,Eq.refl _,.refl _⟩
theorem Pm.trans{a b c:SortSt}(x:Pm a b)(y:Pm b c):Pm a c:=⟨y.1.trans x.1,y.2.1.trans x.2.1,y.2.2.1.trans x.2.2.1,y.2.2.2.trans x.2.2.2⟩
theorem Pm.size{a b:SortSt}(x:Pm a b):(arrOf b).size=(arrOf a).size:=by
 have:=x.2.2.2.length_eq
 rwa [xAm,xAm]at this
section
variable {prog:Program} {w:World} {A:Around} {E:Value->Shared->Prop} {s:Shared} {κ:SortKind}
theorem yfH{st:SortSt}{i j:Nat}{Q:Unit->SortSt->Prop}(h:∀st',Pm st st'->Q () st'):wpS (model prog w) A E s (reverseSlice' i j) Q st:=by
 rw[reverseSlice'_eq];exact wpS_modify (h _ ⟨rfl,rfl,rfl,Array.perm_iff_toList_perm.mp (mirror_perm _ _ _ _)⟩)
theorem yhX{st:SortSt}{i j:Nat}{Q:Unit->SortSt->Prop}(h:∀st',Pm st st'->Q () st'):wpS (model prog w) A E s (moveDown' i j) Q st:=by
 rw[moveDown'_eq];exact wpS_modify (h _ ⟨rfl,rfl,rfl,Array.perm_iff_toList_perm.mp (bubble_perm _ _ _)⟩)
variable {g:Keyed->Prop} (hA:Answ prog w A s κ g)
include hA
theorem zcR{st st':SortSt}{i j:Nat}{Q:Option Bool->SortSt->Prop}(hk:kindOf st=κ)(gs:∀x∈(arrOf st).toList,g x)(e:Pm st st')(hi:i<(arrOf st).size)(hj:j<(arrOf st).size)(h:∀b,Q (some b) st'):wpS (model prog w) A E s (ltAt' i j) Q st' :=
 zh7 hA (e.1.trans hk) (by rw[e.size];exact hi) (by rw[e.size];exact hj) (λx hx=>gs x (e.2.2.2.mem_iff.mp hx)) h
theorem zhe{st st':SortSt}{lo nrem n:Nat}{Q:Option (Option Nat)×Nat->SortSt->Prop}(hk:kindOf st=κ)(gs:∀x∈(arrOf st).toList,g x)(hz:lo+nrem<=(arrOf st).size)(e:Pm st st')(h1:1<=n)(h2:n<=nrem)(h:∀m,1<=m->m<=nrem->Q (none,m) st'):wpS (model prog w) A E s (forIn [n:nrem] ((none,n):Option (Option Nat)×Nat) λ_ z=>ltAt' (lo+z.2) (lo+z.2-1) >>= λr=>match r with
   |some c=>if c=true then pure (ForInStep.done (none,z.2)) else pure (ForInStep.yield (none,z.2+1))
   |_=>pure (ForInStep.done (some none,z.2))) Q st':=by
 refine ybY (λi z u=>u=st'/\z.1=none/\1<=z.2/\z.2<=i) (λz u=>u=st'/\z.1=none/\1<=z.2/\z.2<=nrem) ⟨rfl,rfl,h1,xA4 _⟩ ?_ ?_ ?_
 ·rintro⟨r,m⟩ u ⟨h1,h2,h3,h4⟩;exact⟨h1,h2,h3,by lia⟩
 ·rintro⟨r,m⟩ u ⟨rfl,h2,h3,h4⟩;dsimp only at h2;subst h2;exact h m h3 h4
 ·rintro i ⟨r,m⟩ u _ _ ⟨rfl,h2,h3,h4⟩;dsimp only at h2 h3 h4;refine xAh (zcR hA hk gs e (by ac_rfl) (by ac_rfl) λc=>?_);cases c
  ·exact xAp ⟨rfl,rfl,(by ac_rfl),(by ac_rfl)⟩
  ·exact xAp ⟨rfl,rfl,h3,(by ac_rfl)⟩
theorem yhn{st:SortSt}{lo nrem:Nat}{Q:Option Nat->SortSt->Prop}(hk:kindOf st=κ)(gs:∀x∈(arrOf st).toList,g x)(hz:lo+nrem<=(arrOf st).size)(h1:1<=nrem)(h:∀n st',1<=n->n<=nrem->Pm st st'->Q (some n) st'):wpS (model prog w) A E s (countRun' lo nrem) Q st:=by
 refine xAh (zhe hA hk gs hz Pm.rfl (xA4 _) h1 λn n1 n2=>?_);refine S_if (λ_=>xAp (h _ _ n1 n2 Pm.rfl)) λc1=>?_
 have c1':=nbeq c1;dsimp only at c1';refine S_if (λ_=>xAh (zcR hA hk gs Pm.rfl (by ac_rfl) (by ac_rfl) λc=>?_)) λ_=>?_
 cases c
 rotate_left
 exact xAp (h _ _ n1 n2 Pm.rfl);have e:Pm st st:=Pm.rfl
 rotate_left
 refine xAh (yfH λst1 e=>?_)
 all_goals
  refine xAh (wpS_lift (xB9 ⟨rfl,?_⟩));refine xAh (ybY (λi z u=>Pm st u/\z.1=none/\1<=z.2.1/\z.2.1<=i) (λz u=>Pm st u/\z.1=none/\1<=z.2.1/\z.2.1<=nrem) ⟨e,rfl,(by ac_rfl),xA4 _⟩ ?_ ?_ ?_)
  ·rintro⟨r,m⟩ u ⟨h1,h2,h3,h4⟩;dsimp only at h4;exact⟨h1,h2,h3,(by ac_rfl)⟩
  ·rintro⟨r,m,q⟩ u ⟨e,h2,h3,h4⟩;dsimp only at h2 h3 h4;subst h2;refine S_if (λ_=>xAh (yfH λu1 e1=>?_)) λ_=>?_
   ·refine xAh (yfH λu2 e2=>?_);refine xAh (zhe hA hk gs hz ((e.trans e1).trans e2) h3 h4 λn n1 n2=>?_);exact xAp (h _ _ n1 n2 ((e.trans e1).trans e2))
   ·refine xAh (yfH λu2 e2=>?_);refine xAh (zhe hA hk gs hz (e.trans e2) h3 h4 λn n1 n2=>?_);exact xAp (h _ _ n1 n2 (e.trans e2))
  ·rintro i ⟨r,m,q⟩ u _ _ ⟨e,h2,h3,h4⟩;dsimp only at h2 h3 h4;refine xAh (zcR hA hk gs e (by ac_rfl) (by ac_rfl) λc=>?_);refine S_if (λ_=>?_) λ_=>?_
   rotate_left
   ·refine xAh (zcR hA hk gs e (by ac_rfl) (by ac_rfl) λc=>?_);cases c
    ·exact xAp ⟨e,rfl,(by ac_rfl),(by ac_rfl)⟩
    ·exact xAp ⟨e,rfl,h3,(by ac_rfl)⟩
   ·refine S_if (λ_=>xAh (yfH λu1 e1=>?_)) λ_=>?_
    ·exact xAp ⟨e.trans e1,rfl,(by ac_rfl),(by ac_rfl)⟩
    ·exact xAp ⟨e,rfl,(by ac_rfl),(by ac_rfl)⟩
theorem zib{st:SortSt}{lo n ok:Nat}{Q:Bool->SortSt->Prop}(hk:kindOf st=κ)(gs:∀x∈(arrOf st).toList,g x)(hz:lo+n<=(arrOf st).size)(h:∀st',Pm st st'->Q true st'):wpS (model prog w) A E s (binarySort' lo n ok) Q st:=by
 refine xAh (ybY (λi z u=>Pm st u/\z.1=none) (λz u=>Pm st u/\z.1=none) ⟨Pm.rfl,rfl⟩ (λ_ _ x=>x) ?_ ?_)
 ·rintro⟨r,z⟩ u ⟨e,h2⟩;dsimp only at h2;subst h2;exact xAp (h _ e)
 ·rintro k ⟨r,z⟩ u k1 k2 ⟨e,h2⟩;refine xAh (ybY (λi z u=>Pm st u/\z.1=none/\z.2.2<=k) (λz u=>Pm st u/\z.1=none) ⟨e,rfl,xA4 _⟩ ?_ ?_ ?_)
  ·rintro z u ⟨h1,h2,_⟩;exact⟨h1,h2⟩
  ·rintro⟨r,l,m⟩ u ⟨e,h2⟩;dsimp only at h2;subst h2;exact xAh (yhX λu1 e1=>xAp ⟨e.trans e1,rfl⟩)
  ·rintro i ⟨r,l,m⟩ u _ _ ⟨e,h2,h3⟩;dsimp only at h2 h3;refine S_if (λ_=>xAp ⟨e,rfl⟩) λc1=>?_
   dsimp only at c1;refine xAh (zcR hA hk gs e (by ac_rfl) (by ac_rfl) λc=>?_);cases c
   ·exact xAp ⟨e,rfl,h3⟩
   ·exact xAp ⟨e,rfl,(by ac_rfl)⟩
end
end L2
end
section
-- text: ExtRw
namespace L2
open PySem PySem.W PySem.Calls PyProof.Rows
noncomputable def zbm:List (Nat×Nat×Nat)->Nat->Nat->Prop
 | [],a,b=>a=b
 |x::r,a,b=>x.1=a/\1<=x.2.1/\zbm r (a+x.2.1) b
theorem yb5:∀ {u v:List (Nat×Nat×Nat)} {a b:Nat},zbm (u++v) a b↔∃c,zbm u a c/\zbm v c b
 | [],v,a,b=>⟨λh=>⟨a,rfl,h⟩,λ⟨c,e,h⟩=>by cases e;exact h⟩
 |x::u,v,a,b=>by
  show(x.1=a/\1<=x.2.1/\zbm (u++v) (a+x.2.1) b)↔∃c,(x.1=a/\1<=x.2.1/\zbm u (a+x.2.1) c)/\zbm v c b;rw[yb5];exact⟨λ⟨h1,h2,c,h3,h4⟩=>⟨c,⟨h1,h2,h3⟩,h4⟩,λ⟨c,⟨h1,h2,h3⟩,h4⟩=>⟨h1,h2,c,h3,h4⟩⟩
theorem yeO:∀ {u:List (Nat×Nat×Nat)} {a b:Nat},zbm u a b->a<=b
 | [],a,b,h=>Nat.le_of_eq h
 |x::u,a,b,⟨_,_,h⟩=>xAB (Nat.le_add_right _ _) (yeO h)
theorem zhc{α:Type}{l u v:List α}{x y z:α}{n:Nat}(e:l=u++x::y::v)(h:u.length=n):(l.set n z).eraseIdx (n+1)=u++z::v:=by
 subst e h;rw[List.set_append_right _ _ (xA4 _),List.eraseIdx_append_of_length_le (Nat.le_succ _),Nat.sub_self,show u.length+1-u.length=1 by lia];rfl
theorem zgi{p:Array (Nat×Nat×Nat)}{i b:Nat}(h:zbm p.toList 0 b)(hi:i+1<p.size):∃sa na pa sb nb pb,p[i]?=some (sa,na,pa)/\p[i+1]?=some (sb,nb,pb)/\sb=sa+na/\1<=na/\1<=nb/\sb+nb<=b/\zbm ((p.setIfInBounds i (sa,na+nb,pa)).eraseIdxIfInBounds (i+1)).toList 0 b:=by
 have hl:i+1<p.toList.length:=by rw[xAm];exact hi
 have h1:p.toList=p.toList.take i++p.toList[i]::p.toList[i+1]::p.toList.drop (i+1+1):=by
  rw[<-List.drop_eq_getElem_cons hl,<-List.drop_eq_getElem_cons (by lia),List.take_append_drop]
 rw[h1,yb5]at h;obtain⟨c,h2,h3,h4,h5,h6,h7⟩:=h;have e0:p[i]?=some p.toList[i]:=by
  rw[xAM (by lia)];rfl
 have e1:p[i+1]?=some p.toList[i+1]:=by
  rw[xAM hi];rfl
 refine⟨p.toList[i].1,p.toList[i].2.1,p.toList[i].2.2,p.toList[i+1].1,p.toList[i+1].2.1,p.toList[i+1].2.2,e0,e1,by rw[h5,h3],h4,h6,?_,?_⟩
 ·have:=yeO h7;lia
 ·rw[Array.toList_eraseIdxIfInBounds,Array.toList_setIfInBounds];have hlt:(p.toList.take i).length=i:=by rw[xAC];lia
  rw[zhc h1 hlt,yb5];exact⟨c,h2,h3,by dsimp only;lia,by dsimp only;rw[<-Nat.add_assoc];exact h7⟩
theorem zdY{f:Nat×Nat×Nat->Nat×Nat×Nat}(hf:∀x,(f x).1=x.1/\(f x).2.1=x.2.1):∀ {l:List (Nat×Nat×Nat)} {i a b:Nat},zbm l a b->zbm (l.modify i f) a b
 | [],i,a,b,h=>by cases i <;> exact h
 |x::l,0,a,b,h=>by
  show(f x).1=a/\1<=(f x).2.1/\zbm l (a+(f x).2.1) b;rw[(hf x).1,(hf x).2];exact h
 |x::l,i+1,a,b,⟨h1,h2,h3⟩=>⟨h1,h2,zdY hf h3⟩
theorem zc9{p:Array (Nat×Nat×Nat)}{a n k:Nat}(h:zbm p.toList 0 a)(hn:1<=n):zbm (p.push (a,n,k)).toList 0 (a+n):=by
 rw[Array.toList_push,yb5];exact⟨a,h,rfl,hn,rfl⟩
theorem zeY{α:Type}(q:Nat):∀(l:List α) (k:Nat) (a:Array α),q+k+l.length<=a.size->((l.zipIdx k).foldl (λa x=>a.setIfInBounds (q+x.2) x.1) a).toList=a.toList.take (q+k)++l++a.toList.drop (q+k+l.length)
 | [],k,a,_=>by simp
 |x::l,k,a,h=>by
  rw[xAO]at h;rw[List.zipIdx_cons,List.foldl_cons,zeY q l (k+1) _ (by rw[Array.size_setIfInBounds];lia),Array.toList_setIfInBounds];have hl:q+k<a.toList.length:=by rw[xAm];lia
  rw[show q+(k+1)=q+k+1 by lia,xAO,show q+k+1+l.length=q+k+(l.length+1) by lia];rw[List.take_set,List.drop_set_of_lt (by lia),xBi hl,List.set_append_right _ _ (by rw[xAC];lia),xAC];rw[show q+k-min (q+k) a.toList.length=0 by lia];simp
theorem zgB{α:Type}{a:Array α}{i j k:Nat}{m:Array α}(h1:i<=j)(h2:j<=k)(h3:k<=a.size)(h:m.toList.Perm ((a.extract i j).toList++(a.extract j k).toList)):((m.toList.zipIdx).foldl (λa x=>a.setIfInBounds (i+x.2) x.1) a).toList.Perm a.toList:=by
 have hl:m.toList.length=k-i:=by
  rw[h.length_eq,xAt,xAm,xAm,Array.size_extract,Array.size_extract];lia
 rw[zeY i m.toList 0 a (by lia),hl,show i+0+(k-i)=k by lia,Nat.add_zero];have e:a.toList=a.toList.take i++((a.extract i j).toList++(a.extract j k).toList)++a.toList.drop k:=by
  rw[<-xB5,<-yeT a h1,<-yeT a h2,List.take_append_drop]
 conv=>rhs;rw[e]
 exact List.Perm.append_right _ (List.Perm.append_left _ h)
section
variable {prog:Program} {w:World} {A:Around} {E:Value->Shared->Prop} {s:Shared} {κ:SortKind}
variable {g:Keyed->Prop} (hA:Answ prog w A s κ g)
include hA
omit hA in
theorem yha{st x:SortSt}{Q:PUnit->SortSt->Prop}(h:Q ⟨⟩ x):wpS (model prog w) A E s (set x:StateT SortSt Sem PUnit) Q st:=by
 unfold wpS;rw[StateT.run_set];exact xA3 ⟨rfl,h⟩
theorem yfP{st:SortSt}{i b:Nat}{Q:Bool->SortSt->Prop}(hk:kindOf st=κ)(gs:∀x∈(arrOf st).toList,g x)(hf:failedOf st=none)(hp:zbm (pendingOf st).toList 0 b)(hb:b<=(arrOf st).size)(hi:i+1<(pendingOf st).size)
  (h:∀st':SortSt,kindOf st'=κ->failedOf st'=none->(arrOf st').toList.Perm (arrOf st).toList->zbm (pendingOf st').toList 0 b->Q true st'):wpS (model prog w) A E s (mergeAt' i) Q st:=by
 obtain⟨sa,na,pa,sb,nb,pb,e0,e1,rfl,h1,h2,h3,h4⟩:=zgi hp hi;refine xAh (wpS_get ?_);dsimp only;rw[show(pendingOf st)[i]?=_ from e0,show(pendingOf st)[i+1]?=_ from e1];refine xAh (yha ?_);have r1:sa+na<(arrOf st).size:=by lia
 refine xAh (zaI r1 ?_);refine xAh (zbP hA hk (gd gs r1) gs (base:=sa) (n:=na) (hint:=0) (Nat.le_of_lt r1) h1 λk hk1=>?_);refine S_if (λ_=>xAp (h _ hk hf (.refl _) h4)) λc1=>?_
 have c1':=nbeq c1;have r2:sa+k+(na-k)-1<(arrOf st).size:=by lia
 refine xAh (zaI r2 ?_);refine xAh (zbP hA hk (gd gs r2) gs (base:=sa+na) (n:=nb) (hint:=nb-1) (xAB h3 hb) (by lia) λk2 hk2=>?_);refine S_if (λ_=>xAp (h _ hk hf (.refl _) h4)) λc2=>?_
 have c2':=nbeq c2;have gx:∀i j,∀x∈((arrOf st).extract i j).toList,g x:=λi j x hx=>gs x (by
  rw[Array.toList_extract,List.extract_eq_take_drop]at hx;exact List.mem_of_mem_drop (List.mem_of_mem_take hx))
 have x1:0<((arrOf st).extract (sa+k) (sa+na)).size:=by rw[Array.size_extract];lia
 have x2:0<((arrOf st).extract (sa+na) (sa+na+k2)).size:=by rw[Array.size_extract];lia
 have fin:∀(r:Array Keyed) (st1:SortSt),r.toList.Perm (((arrOf st).extract (sa+k) (sa+na)).toList++((arrOf st).extract (sa+na) (sa+na+k2)).toList)->Sm (SortSt.mk' (kindOf st) (arrOf st) (((pendingOf st).setIfInBounds i (sa,na+nb,pa)).eraseIdxIfInBounds (i+1)) (gallopOf st) (failedOf st)) st1->wpS (model prog w) A E s (pure (failedOf st1).isNone) Q (SortSt.mk' (kindOf st1) ((r.toList.zipIdx).foldl (λa x=>a.setIfInBounds (sa+k+x.2) x.1) (arrOf st1)) (pendingOf st1) (gallopOf st1) (failedOf st1)):=by
  intro r st1 hr ⟨f1,f2,f3,f4⟩;rw[show failedOf st1=none from f4.trans hf];refine xAp (h _ (f1.trans hk) rfl ?_ ?_)
  ·show(List.foldl _ (arrOf st1) _).toList.Perm _;rw[show arrOf st1=arrOf st from f2];exact zgB (by lia) (by lia) (by lia) hr
  ·show zbm (pendingOf st1).toList 0 b;rw[f3];exact h4
 refine S_if (λ_=>?_) λ_=>?_
 ·refine xAh (ygd hA hk (gx _ _) (gx _ _) x1 x2 λr st1 hr e=>?_);refine xAh (wpS_modify ?_);refine xAh (wpS_get ?_);exact fin r st1 hr e
 ·refine xAh (ygf hA hk (gx _ _) (gx _ _) x1 x2 λr st1 hr e=>?_);refine xAh (wpS_modify ?_);refine xAh (wpS_get ?_);exact fin r st1 hr e
omit hA in
theorem yh8{c:Prop}[Decidable c]{n:Nat}(h:¬ n<=1):(if c then n-2-1 else n-2)+1<n:=by
 split <;> lia
noncomputable def Rn(κ:SortKind)(st0:SortSt)(b:Nat)(st:SortSt):Prop:=kindOf st=κ/\failedOf st=none/\(arrOf st).toList.Perm (arrOf st0).toList/\zbm (pendingOf st).toList 0 b/\b<=(arrOf st0).size
theorem yhM{st:SortSt}{Q:Unit->SortSt->Prop}(hk:kindOf st=κ)(gs:∀x∈(arrOf st).toList,g x)(hf:failedOf st=none)(hp:pendingOf st = #[])
  (h:∀st':SortSt,failedOf st'=none->(arrOf st').toList.Perm (arrOf st).toList->Q () st'):wpS (model prog w) A E s sortRuns' Q st:=by
 have merge:∀(b i:Nat) (u:SortSt) {Q:Bool->SortSt->Prop},Rn κ st b u->i+1<(pendingOf u).size->(∀v,Rn κ st b v->Q true v)->wpS (model prog w) A E s (mergeAt' i) Q u:=λb i u Q R hi k=>yfP hA R.1 (λx hx=>gs x (R.2.2.1.mem_iff.mp hx)) R.2.1 R.2.2.2.1 (by
   have:=R.2.2.1.length_eq;rw[xAm,xAm]at this;rw[this];exact R.2.2.2.2) hi λv h1 h2 h3 h4=>k v ⟨h1,h2,h3.trans R.2.2.1,h4,R.2.2.2.2⟩
 refine xAh (wpS_get ?_);refine xAh (ybY (λ_ z u=>z.1=none/\Rn κ st z.2 u) (λz u=>z.1=none/\Rn κ st z.2 u) ⟨rfl,hk,hf,.refl _,?_,xB7 _⟩ (λ_ _ x=>x) ?_ ?_)
 ·rw[hp];rfl
 ·rintro⟨r,lo⟩ u ⟨e1,R⟩;dsimp only at e1;subst e1;refine xAh (ybY (λ_ z u=>z.1=none/\Rn κ st lo u) (λz u=>z.1=none/\Rn κ st lo u) ⟨rfl,R⟩ (λ_ _ x=>x) ?_ ?_)
  ·rintro⟨r,z⟩ u ⟨e1,R1,R2,R3,R4,R5⟩;dsimp only at e1;subst e1;exact xAp (h _ R2 R3)
  ·rintro i ⟨r,z⟩ u _ _ ⟨e1,R⟩;refine xAh (wpS_get ?_);refine S_if (λ_=>xAp ⟨rfl,R⟩) λc1=>?_
   have c2:¬ (pendingOf u).size<=1:=c1;refine xAh (merge _ _ _ R ?_ (λu R=>xAp ⟨rfl,R⟩));exact yh8 c2
 ·rintro i ⟨r,lo⟩ u _ _ ⟨e1,R1,R2,R3,R4,R5⟩;dsimp only at R4 R5;refine S_if (λ_=>xAp ⟨rfl,R1,R2,R3,R4,R5⟩) λc1=>?_
  dsimp only at c1;have sz:(arrOf u).size=(arrOf st).size:=by
   have:=R3.length_eq
   rwa [xAm,xAm]at this
  refine xAh (yhn hA R1 (λx hx=>gs x (R3.mem_iff.mp hx)) ?_ ?_ λn u1 n1 n2 e=>?_)
  ·show lo+((arrOf st).size-lo)<=(arrOf u).size;have c2:¬ lo>=(arrOf st).size:=c1;lia
  ·show 1<=(arrOf st).size-lo;have c2:¬ lo>=(arrOf st).size:=c1;lia
  have n3:n<=(arrOf st).size-lo:=n2;have c3:¬ lo>=(arrOf st).size:=c1;have U:Rn κ st lo u1:=⟨e.1.trans R1,e.2.2.1.trans R2,e.2.2.2.trans R3,by rw[e.2.1];exact R4,R5⟩
  refine S_if (λc2=>?_) λ_=>?_
  refine xAh (wpS_lift (xB9 ⟨rfl,?_⟩));refine xAh (zib hA U.1 (λx hx=>gs x (U.2.2.1.mem_iff.mp hx)) ?_ λv e2=>?_)
  ·rw[e.size,sz];show lo+min ((arrOf st).size-lo) _<=_;lia
  have V:Rn κ st lo v:=⟨e2.1.trans U.1,e2.2.2.1.trans U.2.1,e2.2.2.2.trans U.2.2.1,by rw[e2.2.1];exact U.2.2.2.1,R5⟩
  have m1:1<=min ((arrOf st).size-lo) (minRun' (arrOf st).size (arrOf st).size 0):=by
   have c2':n<minRun' (arrOf st).size (arrOf st).size 0:=c2;lia
  have m2:lo+min ((arrOf st).size-lo) (minRun' (arrOf st).size (arrOf st).size 0)<=(arrOf st).size:=by lia
  rotate_left
  obtain⟨v,hv⟩:∃v,v=u1:=⟨_,rfl⟩
  rw[<-hv]at U ⊢;have V:=U;have m1:=n1;have m2:lo+n<=(arrOf st).size:=by lia
  all_goals
   refine xAh (wpS_get ?_);generalize hb:(pendingOf v).back?=o;rcases o with _ |⟨s1,n1,p1⟩
   ·refine xAh (wpS_modify (xAp ⟨rfl,V.1,V.2.1,V.2.2.1,zc9 V.2.2.2.1 m1,m2⟩))
   ·refine xAh (ybY (λ_ z u=>z.1=none/\Rn κ st lo u) (λz u=>z.1=none/\Rn κ st lo u) ⟨rfl,V⟩ (λ_ _ x=>x) ?_ ?_)
    ·rintro⟨r,z⟩ u ⟨e1,V⟩;dsimp only at e1;subst e1;refine xAh (wpS_modify ?_);refine xAh (wpS_modify (xAp ⟨rfl,V.1,V.2.1,V.2.2.1,zc9 ?_ m1,m2⟩));show zbm ((pendingOf u).modify _ _).toList 0 lo;rw[Array.toList_modify];refine zdY ?_ V.2.2.2.1
     exactλx=>⟨rfl,rfl⟩
    ·rintro i ⟨r,z⟩ u _ _ ⟨e1,V⟩;refine xAh (wpS_get ?_);dsimp only;generalize hm:(if (pendingOf u).size>1 then(pendingOf u)[(pendingOf u).size-2]? else none)=o;rcases o with _ |⟨s2,n2,p2⟩
     ·exact xAp ⟨rfl,V⟩
     ·have hs:(pendingOf u).size>1:=Decidable.byContradiction λc=>by rw[if_neg c]at hm;cases hm
      exact S_if (λ_=>xAp ⟨rfl,V⟩) λ_=>xAh (merge _ _ _ V (show(pendingOf u).size-2+1<(pendingOf u).size by lia) λu V=>xAp ⟨rfl,V⟩)
end
end L2
end
section
-- text: ExtRx
namespace L2
open PySem PySem.Spec PySem.W PySem.Calls PyProof.Rows
section
variable {prog:Program} {w:World} {A:Around} {E:Value->Shared->Prop} {s:Shared} {vs:List Value}
noncomputable def ybq(h h':Heap):Prop:=∀(b:Addr) (o:Obj),h.get? b=some o->h'.get? b=some o
theorem ybq.trans{a b c:Heap}(x:ybq a b)(y:ybq b c):ybq a c:=λb o e=>y b o (x b o e)
theorem ybq.push(h:Heap)(o:Obj):ybq h (h.push o):=λ_ _ e=>xA2 _ e
theorem yeI{α:Type}(vs:List α):(vs.toArray.zip vs.toArray).toList=vs.map λv=>(v,v):=by
 rw[Array.toList_zip];show vs.zip vs=_
 induction vs with
 |nil=>rfl
 |cons x l ih=>rw[List.zip_cons_cons,ih];rfl
theorem ydf{h₀:Heap}{a:Addr}{n:Nat}{P:PySem.Fin->Shared->Prop}(ho:s.heap.get? a=some (seqObj "list" vs.toArray n))(hz:vs.length<=sizeLine)(k0:ybq h₀ s.heap)(ha:h₀.get? a=none)
  (ask:∀h':Heap,ybq h₀ h'->2<=vs.length->wpAny (model prog w) A (keyKind' vs.toArray) (λκ s'=>s'={ s with heap:=h' }/\∃g:Keyed->Prop,(∀v∈vs,g (v,v))/\Answ prog w A { s with heap:=h' } κ g) (λ_ _=>False) { s with heap:=h' })
  (fin:∀(es:List Value) (h':Heap) (c:Nat),ybq h₀ h'->h'.get? a=some (seqObj "list" es.toArray c)->es.Perm vs->P (.done (.ret .none)) { s with heap:=h' }) :
  wpAny (model prog w) A (Builtin.«list.sort» ⟨[.ref a],[]⟩) P E s:=by
 have hs:vs.toArray.size<=sizeLine:=by rw[xAa];exact hz
 obtain⟨c1,o1⟩:∃c,(s.heap.update a (Obj.mapSeq λ_=>(#[]:Array Value))).get? a=some (seqObj "list" #[] c):=⟨_,get?_update_seq ho λ_=>#[]⟩
 have ku:∀(h:Heap) (f:Obj->Obj),ybq h₀ h->ybq h₀ (h.update a f):=λh f k b o e=>by
  rw[Heap.get?_update_ne _ _ _ _ (λq=>by rw[q,ha]at e;cases e)];exact k b o e
 rw[list_sort_plain];refine xA1 (listItems_at ho rfl (xA1 (listUpdate_at ho rfl ?_ hs (xB7 _))));refine xA1 (seqEpoch_at o1 rfl (xA1 (wpAny_newTuple ?_ hz)));refine xA1 (wpAny_newList (xBf ?_) (xB7 _));obtain⟨h1,e1⟩:∃h1,h1=((s.heap.update a (Obj.mapSeq λ_=>(#[]:Array Value))).push (seqObj "tuple" vs.toArray 0)).push (seqObj "list" #[] 0):=⟨_,rfl⟩
 have k1:ybq h₀ h1:=by rw[e1];exact((ku _ _ k0).trans (ybq.push _ _)).trans (ybq.push _ _)
 have o2:h1.get? a=some (seqObj "list" #[] c1):=by rw[e1];exact ybq.push _ _ _ _ (ybq.push _ _ _ _ o1)
 have last:∀ {out:Array Value},out.toList.Perm vs->P (.done (.ret .none)) { s with heap:=h1.update a (Obj.mapSeq λ_=>out) }:=λ{out} hp=>by
  refine fin out.toList _ _ (ku _ _ k1) (get?_update_seq o2 λ_=>out) hp
 show wpAny (model prog w) A _ P E { s with heap:=((s.heap.update a (Obj.mapSeq λ_=>(#[]:Array Value))).push (seqObj "tuple" vs.toArray 0)).push (seqObj "list" #[] 0) };rw[<-e1];have zp:∀ {st:SortSt},(arrOf st).toList.Perm ((vs.toArray.zip vs.toArray).toList)->((arrOf st).map (·.2)).toList.Perm vs:=λ{st} hp=>by
  have:=hp.map (·.2);rw[yeI,List.map_map]at this;rw[Array.toList_map];exact this.trans (by show((vs.map id).Perm vs);rw[List.map_id])
 have zs:∀ {out:Array Value},out.toList.Perm vs->out.size<=sizeLine+1:=λhp=>by
  have:=hp.length_eq;rw[xAm]at this;lia
 dsimp only;by_cases c2:vs.toArray.size<2
 ·rw[if_pos c2,if_pos c2];refine xA1 (xA3 (xA1 ?_));rw[StateT.run_pure];refine xA3 ?_;have hp:=zp (st:=SortSt.mk' general' (vs.toArray.zip vs.toArray) #[] 7 none) (.refl _);refine xA1 (seqEpoch_at o2 rfl (xA1 (listUpdate_at o2 rfl ?_ (xB7 _) (zs hp))));simp only[bne_self_eq_false,Bool.false_eq_true,if_false];exact xA3 (last hp)
 ·rw[if_neg c2,if_neg c2];rw[xAa]at c2;refine xA1 (xAQ (ask h1 k1 (by lia)) (λκ s' hk=>?_) λ_ _ x=>x.elim);obtain⟨rfl,g,hg,hA⟩:=hk;refine xA1 (xAQ (yhM (E:=λ_ _=>False) (st:=SortSt.mk' κ (vs.toArray.zip vs.toArray) #[] 7 none) (Q:=λ_ st=>failedOf st=none/\(arrOf st).toList.Perm (vs.toArray.zip vs.toArray).toList) hA rfl ?_ rfl rfl λst h1 h2=>⟨h1,h2⟩) ?_ λ_ _ x=>x.elim)
  ·intro x hx;rw[show arrOf (SortSt.mk' κ (vs.toArray.zip vs.toArray) #[] 7 none)=vs.toArray.zip vs.toArray from rfl,yeI]at hx;obtain⟨v,hv,rfl⟩:=xAg.mp hx;exact hg v hv
  rintro⟨⟨⟩,st⟩ s' ⟨rfl,hf,hp⟩;have hp:=zp hp;dsimp only;refine xA1 (seqEpoch_at o2 rfl (xA1 (listUpdate_at o2 rfl ?_ (xB7 _) (zs hp))));rw[show failedOf st=none from hf];simp only[bne_self_eq_false,Bool.false_eq_true,if_false];exact xA3 (last hp)
theorem yfg{l:Addr}{Q:Value->Shared->Prop}(hl:s.heap.IsList l vs.toArray)(hz:vs.length<=sizeLine)
  (ask:∀h':Heap,ybq s.heap h'->2<=vs.length->wpAny (model prog w) A.in1.in1 (keyKind' vs.toArray) (λκ s'=>s'={ s with heap:=h' }/\∃g:Keyed->Prop,(∀v∈vs,g (v,v))/\Answ prog w A.in1.in1 { s with heap:=h' } κ g) (λ_ _=>False) { s with heap:=h' })
  (fin:∀(D:Addr) (es:List Value) (h':Heap) (c:Nat),s.heap.objs.size<=D->ybq s.heap h'->h'.get? D=some (seqObj "list" es.toArray c)->es.Perm vs->Q (.ref D) { s with heap:=h' }) :
  wpAny (model prog w) A (call (.builtin "sorted") [.ref l]) Q E s:=by
 apply call_function_entry kind_sorted plain_sorted entry_sorted (args_sorted1 _);refine xA1 (m:=checkCount "sorted" 1 1 _) (xA3 (xA1 (collect_list hl (xA1 (wpAny_newList ?_ hz)) hz)));obtain⟨h1,e1⟩:∃h1,h1=(s.heap.push (seqObj "list" #[] 0)).update s.heap.objs.size (Obj.mapSeq (·++vs.toArray)):=⟨_,rfl⟩
 have z1:h1.objs.size=s.heap.objs.size+1:=by rw[e1,Heap.size_update,size_push']
 have k1:ybq s.heap h1:=λb o e=>by
  rw[e1,Heap.get?_update_ne _ _ _ _ (xAF (xAd e)),Heap.get?_push_ne _ _ _ (xAF (xAd e))];exact e
 show wpAny _ _ _ _ _ { s with heap:=((s.heap.push (seqObj "list" #[] 0)).update s.heap.objs.size (Obj.mapSeq (·++vs.toArray))).push (seqObj "list" vs.toArray 0) };rw[<-e1];have o2:(h1.push (seqObj "list" vs.toArray 0)).get? h1.objs.size=some (seqObj "list" vs.toArray 0):=xA6 _ rfl;refine xA1 (xBf (xAX slot_list_sort ⟨_,o2,rfl⟩ entry_list_sort ?_ (args_list_sort _)));have z2:s.heap.objs.size<=h1.objs.size:=by lia
 refine ydf (s:={ s with heap:=h1.push (seqObj "list" vs.toArray 0) }) (h₀:=s.heap) o2 hz (k1.trans (ybq.push _ _)) (Heap.get?_none_of_le z2) (λh' k=>ask h' k) λes h' c k e p=>⟨_,rfl,xA3 ⟨_,rfl,fin _ es h' c z2 k e p⟩⟩
end
theorem yhT:∀ {ds:List Addr} {us:List Value},Vals (ds.map V.ref) us->us=ds.map Value.ref
 | [],_,.nil=>rfl
 |d::ds,_,.cons r t=>by cases r;rw[yhT t];rfl
theorem zhM:∀ {ds:List Addr},Vals (ds.map V.ref) (ds.map Value.ref)
 | []=>.nil
 |d::ds=>.cons rfl zhM
theorem yb1:∀ {es ds:List Value},es.Perm ds->∀ {l:List Addr},ds=l.map Value.ref->∃m:List Addr,es=m.map Value.ref/\m.Perm l
 |_,_,.nil,l,e=>by cases l with|nil=>exact⟨[],rfl,.nil⟩|cons _ _=>cases e
 |_,_,.cons x p,l,e=>by
  cases l with
  |nil=>cases e
  |cons y l=>
   injection e with e1 e2;obtain⟨m,h1,h2⟩:=yb1 p e2;exact⟨y::m,by rw[e1,h1];rfl,h2.cons _⟩
 |_,_,.swap x y r,l,e=>by
  rcases l with _ |⟨u,_ |⟨v,l⟩⟩
  ·cases e
  ·cases e
  ·injection e with e1 e2;injection e2 with e2 e3;exact⟨v::u::l,by rw[e1,e2,e3];rfl,.swap ..⟩
 |_,_,.trans p q,l,e=>by
  obtain⟨m,h1,h2⟩:=yb1 q e;obtain⟨m',h3,h4⟩:=yb1 p h1;exact⟨m',h3,h4.trans h2⟩
noncomputable def IntV(v:Value):Prop:=∃i t,v = .int i t
theorem yfo{prog:Program}{w:World}{A:Around}{b fin:Bool}{Q:Bool->Shared->Prop}{s:Shared}(q:∀c,Q c s):∀(l:List (Value×Value)) (i:Nat),(∀p∈l,IntV p.1/\IntV p.2)->KatLex prog w A b fin Q l i s
 | [],_,_=>q _
 |(x,y)::l,i,h=>by
  obtain⟨⟨a,t,rfl⟩,⟨c,u,rfl⟩⟩:=h _ (xAb ..);refine kat_cons (wpAny_eqBool_int ?_);refine kat_go (λ_=>kat_yes (yfo q l (i+1) λp hp=>h p (xA7 _ hp))) (λ_=>kat_no ?_);cases (b&&i==0)
  ·exact kat_one _ _ (P.lt_int (q _))
  ·exact oneLt_int (q _)
section
variable {X:Cx}
theorem ygD{K:PySem.W.Frag}{tg l:Expr}{tl:TE}(h:X.K=K)(hl:PE X l tl):PI X tg l (yhD K tl):=h ▸ yaN hl
noncomputable def zh4(K:PySem.W.Frag):List V->Hp->VK->Prop:=λxs H Q=>∃(a:Addr) (ds:List Addr),xs=[.ref a]/\SqL K H a (ds.map V.ref)/\(∀d∈ds,∃rs:List Int,0<rs.length/\SqT K H d (rs.map V.int))/\
 ∀(l:Addr) (es:List Addr),H l=none->es.Perm ds->Q (.ref l) (upd H l (.lst (es.map V.ref)))
theorem ydZ:∀ {ns:List Int} {us:List Value},Vals (ns.map V.int) us->∀v∈us,IntV v
 | [],_,.nil=>λv hv=>by cases hv
 |n::ns,_,.cons r t=>λv hv=>by
  rcases xA9.mp hv with rfl|hv
  ·obtain⟨t,e⟩:=r;exact⟨n,t,e⟩
  ·exact ydZ t v hv
theorem zd6:zbR X (.builtin "sorted") (zh4 X.K):=by
 intro pins s σ H xs us Q I r h;obtain⟨a,ds,rfl,ha,hd,q⟩:=h;obtain⟨u,rfl,rx⟩:=ycg r;cases rx;obtain⟨its,r1,p1,z1⟩:=I.list ha;have e:=yhT r1;subst e;rw[xA0]at z1;refine yfg p1.isList (by rw[xA0];exact z1) (λh' k h2=>?_) λD es h' c hD k e p=>?_
 ·have hT:∀d∈ds,∃(o:Obj) (us:List Value) (n:Nat),h'.get? d=some o/\o.cls = .type "tuple"/\o.data = .seq us.toArray n/\0<us.length/\∀v∈us,IntV v:=λd hdd=>by
   obtain⟨rs,h0,hs⟩:=hd d hdd;obtain⟨us,rv,⟨o,e,c,n,dt⟩,_⟩:=I.tuple hs;have hl:=rv.length;rw[xA0]at hl;exact⟨o,us,n,k d o e,c,dt,by lia,ydZ rv⟩
  have hK:∀l:List Addr,(∀d∈l,d∈ds)->∃fs:List Value,KatTups h' (l.map Value.ref) fs/\fs.length=l.length/\∀v∈fs,IntV v:=by
   intro l
   induction l with
   |nil=>exactλ_=>⟨[],trivial,rfl,λv hv=>by cases hv⟩
   |cons d l ih=>
    intro hl;obtain⟨fs,k1,k2,k3⟩:=ih λx hx=>hl x (xA7 _ hx)
    obtain⟨o,us,n,e,c,dt,h0,hv⟩:=hT d (hl d (xAb ..));rcases us with _ |⟨f,us⟩
    ·cases h0
    ·exact⟨f::fs,KatTups.cons e c dt (by simp) k1,by simp[k2],λv hv'=>by
      rcases xA9.mp hv' with rfl|hv'
      ·exact hv _ (xAb ..)
      ·exact k3 v hv'⟩
  obtain⟨fs,k1,k2,k3⟩:=hK ds λ_ h=>h
  rw[xA0]at h2;refine kat_kind (T:=.type "int") k1 (by lia) (λv hv=>?_) rfl ⟨rfl,λx=>∃d∈ds,x.1 = .ref d,λv hv=>?_,?_⟩
  ·obtain⟨i,t,rfl⟩:=k3 v hv;exact Looks.of_pure rfl
  ·obtain⟨d,hd,e⟩:=xAg.mp hv;exact⟨d,hd,e.symm⟩
  ·rintro⟨x,x'⟩ ⟨y,y'⟩ C ⟨d1,m1,e1⟩ ⟨d2,m2,e2⟩ hC;dsimp only at e1 e2;subst e1 e2;obtain⟨o1,us1,n1,e1,c1,q1,_,v1⟩:=hT d1 m1;obtain⟨o2,us2,n2,e2,c2,q2,_,v2⟩:=hT d2 m2;refine kat_lt e1 q1 e2 q2 (yfo (λc=>hC c) _ _ λp hp=>?_);obtain⟨x,y⟩:=p;have:=List.of_mem_zip hp;exact⟨v1 _ (by simpa using this.1),v2 _ (by simpa using this.2)⟩
 ·obtain⟨m,rfl,pm⟩:=yb1 p rfl;refine⟨.ref D,_,I.laid (t':=s.toks) (o:=.lst (m.map V.ref)) k hD ⟨?_,m.map Value.ref,c,zhM,e⟩,rfl,q _ _ (I.hok.fresh hD) pm⟩;rw[xA0,pm.length_eq];exact z1
end
end L2
end
section
-- text: ExtRy
namespace L2
open PySem PySem.Spec PySem.W PySem.Calls PyProof.Rows
section
variable {X:Cx}
noncomputable def yil(K:PySem.W.Frag):V->V->Hp->VK->Prop:=λx y H Q=>∃p xs i v,x = .ref p/\y = .int i/\0<=i/\SqL K H p xs/\atI xs i=some v/\Q v H
theorem zgq:PGet X (yil X.K):=by
 intro pins s σ H x y v u Q I rx ry h;obtain⟨p,xs,i,z,rfl,rfl,h0,hq,he,q⟩:=h;cases rx;obtain⟨t,rfl⟩:=ry;obtain⟨its,r,pl,hz⟩:=I.list hq;obtain⟨j,h1,h2,h3,h4,h5⟩:=zeD he;obtain⟨w,ew,rw'⟩:=r.get h2;have hl:=r.length;have hn:=yd1;have hj:i.toNat=j:=by
  rw[seqIndex_of h0 h5]at h1;exact xAv h1
 exact wpAny_getItem_list pl.isList h0 (by lia) (by rw[hj];simpa using ew) ⟨z,H,I,rw',q⟩
end
end L2
end
section
-- text: P1
namespace My
open PySem L2 Dg
noncomputable def top(i:Nat):Stmt:=PySem.Challenge.pw_roundwords_k31_counts_of_weights.main.body.getD i (.Pass ⟨0,0,0,0⟩)
noncomputable abbrev zbi:Stmt:=top 1
noncomputable abbrev ybs:Stmt:=top 7
noncomputable abbrev yf0:Stmt:=top 8
noncomputable abbrev zbs:Stmt:=top 9
noncomputable abbrev zet:Stmt:=top 10
noncomputable abbrev ydI:Stmt:=top 11
noncomputable abbrev zeu:Stmt:=top 12
noncomputable abbrev ybg:Stmt:=top 13
noncomputable abbrev zfF:Stmt:=top 14
noncomputable abbrev zen:Stmt:=top 15
noncomputable abbrev zcd:Stmt:=top 16
noncomputable abbrev zdw:Stmt:=top 18
noncomputable abbrev zb8:Stmt:=top 20
noncomputable abbrev zbM:Stmt:=top 22
noncomputable abbrev zbe:Stmt:=top 23
noncomputable abbrev ycY:Stmt:=top 25
noncomputable abbrev ycZ:Stmt:=top 26
noncomputable abbrev zbV:Stmt:=top 27
noncomputable abbrev ycd:Stmt:=top 28
noncomputable abbrev ybh:Stmt:=top 31
noncomputable abbrev zeI:Stmt:=top 32
noncomputable abbrev yfy:Stmt:=top 33
noncomputable abbrev zch:Stmt:=top 34
noncomputable abbrev yeK:Stmt:=top 35
noncomputable abbrev zcJ:Stmt:=top 36
noncomputable abbrev zcv:Stmt:=top 38
noncomputable abbrev ydH:Stmt:=top 39
noncomputable abbrev ybE:Stmt:=top 41
noncomputable abbrev zbY:Stmt:=top 42
noncomputable abbrev ybt:Stmt:=top 43
noncomputable abbrev zby:Stmt:=top 44
noncomputable abbrev zbx:Stmt:=top 45
noncomputable abbrev ybl:Stmt:=top 46
noncomputable abbrev zaY:Stmt:=top 47
noncomputable abbrev ybb:Stmt:=top 48
noncomputable abbrev zbc:Stmt:=top 49
noncomputable abbrev zbW:Stmt:=top 50
noncomputable abbrev zbJ:Stmt:=top 51
noncomputable abbrev ybK:Stmt:=top 52
noncomputable abbrev ybD:Stmt:=top 53
noncomputable abbrev zbK:Stmt:=top 54
noncomputable abbrev ybX:Stmt:=top 55
noncomputable abbrev zaD:Stmt:=top 56
noncomputable abbrev zaZ:Stmt:=top 57
noncomputable abbrev zbG:Stmt:=top 58
noncomputable abbrev ybd:Stmt:=top 59
noncomputable abbrev za1:Stmt:=top 60
noncomputable abbrev yaS:Stmt:=top 61
noncomputable abbrev zd9:Stmt:=top 62
noncomputable def zg3:List Str:=["range","len","abs","min","max","all","any","isinstance","int","bool","tuple","list","zip","enumerate","repr","dict","reversed","sorted","sum","set","str"]
noncomputable abbrev Bl(mg:Str->Option Value):Prop:=∀x∈zg3,mg x=none
noncomputable def Fld(K:PySem.W.Frag)(H:Hp)(a:Addr)(p m t:Nat):Prop:=SqT K H a [.int p,.int m,.int t]
theorem Same.tup{K:PySem.W.Frag}{H H':Hp}{a:Addr}{xs:List V}(e:Same H H')(h:SqT K H a xs):SqT K H' a xs:=by
 rcases h with(h |⟨o,h⟩)|h
 ·exact .inl (.inl (e _ _ h))
 ·exact .inl (.inr ⟨o,e _ _ h⟩)
 ·exact .inr h
noncomputable def mI(σ:St)(i:Nat):Nat:=match σ[i]? with
 |some (some (.int n))=>n.toNat
 |_=>0
local macro_rules | `(tactic| walk_at "rd") => `(tactic| repeat (first | refine ⟨_, rfl, ?_⟩ | refine ⟨_, _, rfl, rfl, ?_⟩))
theorem zgT{t u:TT}{σ:St}{H:Hp}{Q:Bool->Hp->Prop}{b1 b2:Bool}(h1:∀Q:Bool->Hp->Prop,Q b1 H->t σ H Q)(h2:∀Q:Bool->Hp->Prop,Q b2 H->u σ H Q)(q:Q (b1||b2) H):tOr t u σ H Q:=by
 refine h1 _ ?_;cases b1
 ·exact h2 _ q
 ·exact q
theorem zhw{t u:TT}{σ:St}{H:Hp}{Q:Bool->Hp->Prop}{b1 b2:Bool}(h1:∀Q:Bool->Hp->Prop,Q b1 H->t σ H Q)(h2:b1=true->∀Q:Bool->Hp->Prop,Q b2 H->u σ H Q)(q:Q (b1&&b2) H):tAnd t u σ H Q:=by
 refine h1 _ ?_;cases b1
 ·exact q
 ·exact h2 rfl _ q
theorem zct{X:Cx}{st:Stmt}:PS X st (λ_ _ _=>False):=λ_ _ _ _ _ _ h=>h.elim
section
variable {P:Program} {w:World} {K:PySem.W.Frag} {mg:Str->Option Value} {base:Heap} {f:Addr} {fd:FuncData}
noncomputable def zcb(K:PySem.W.Frag):Sp:=λvs H Q _=>∃(a:Addr) (p m t x y:Nat),vs=[.ref a,.int x,.int y]/\Fld K H a p m t/\2<=p/\p<=64/\∀r:Nat,(∀i,dg p i r=(dg p i x+dg p i y)%p)->Q (.int r) H
theorem zbL:yah ["field","one","other","p","total","unit"] ["field","one","other"] (zae yf0):=⟨rfl,rfl,rfl,by decide +kernel,rfl,by decide +kernel,by decide +kernel⟩
theorem yhI(B:Bl mg)(F:Fun K "plus" "plus" yf0 f fd):FnOk P w K mg base CX0 1 f fd ["field","one","other"] (zcb K):=by
 refine F.ok zbL (λvs H Q E h=>?_) (λcdv A outer s H vs Q E hr h=>?_)
 ·obtain⟨a,p,m,t,x,y,rfl,_⟩:=h;rfl
 obtain⟨a,p,m,t,x,y,rfl,hF,hp,hp2,q⟩:=h;refine⟨_,(@zab _ _ _ _ _ (@zag _ _ 3 _ _ _ _ zbL.nd rfl (Or.inl rfl) (@zan _ _ _ _ _ _ _ zas (pv 0) yac (λ_ _=>rfl)) ⋯ (by trivial)) (@zab _ _ _ _ _ (@zag _ _ 4 _ _ _ _ zbL.nd rfl (Or.inl rfl) yac ⋯ (by trivial)) (@zab _ _ _ _ _ (@zag _ _ 5 _ _ _ _ zbL.nd rfl (Or.inl rfl) yac ⋯ (by trivial)) (@zab _ _ _ _ _ (@yaL _ _ _ _ _ _ xAl (@PW.pt _ _ _ (@zfu _ _ _ _ _ _ _ (@zai _ _ _ _ _ _ _ _ ybU (pv 1) yac (yak _)) (@zdS _ _ _ _ (@zai _ _ _ _ _ _ _ _ ybU (pv 2) yac (yak _))))) (@zab _ _ _ _ _ (@zbA _ _ 4 _ _ _ _ _ _ zbL.nd rfl (Or.inl rfl) (@zaf _ _ _ _ _ _ _ _ zaU (@zaf _ _ _ _ _ _ _ _ yaz (@zaf _ _ _ _ _ _ _ _ zau (pv 1) (pv 2)) (pv 3)) (pv 5)) zds (by trivial)) (@zab _ _ _ _ _ (@zbA _ _ 1 _ _ _ _ _ _ zbL.nd rfl (Or.inl rfl) (pv 3) ycF (by trivial)) (@zab _ _ _ _ _ (@zbA _ _ 2 _ _ _ _ _ _ zbL.nd rfl (Or.inl rfl) (pv 3) ycF (by trivial)) (@yad _ _ _ (@zbA _ _ 5 _ _ _ _ _ _ zbL.nd rfl (Or.inl rfl) (pv 3) yex (by trivial))))))) (@yad _ _ _ (@yaj _ _ _ _ (pv 4))))))),?_⟩;refine⟨_,rfl,a,_,_,_,rfl,rfl,hF,rfl,?_⟩;refine zaL (λσ H'=>H'=H/\∃(k o u tt:Nat),σ=[some (.ref a),some (.int o),some (.int u),some (.int p),some (.int tt),some (.int ((p^k:Nat):Int))]/\o=x/p^k/\u=y/p^k/\tt<p^k/\∀i,i<k->dg p i tt=(dg p i x+dg p i y)%p)
  (λσ _=>mI σ 1+mI σ 2) ⟨rfl,0,x,y,0,rfl,by simp,by simp,by simp,λi hi=>absurd hi (Nat.not_lt_zero _)⟩ ?_
 rintro σ H' ⟨rfl,k,o,u,tt,rfl,ho,hu,ht,hd⟩;have pk:0<p^k:=xB1 (by lia);refine zgT (b1:=decide ((0:Int)<o)) (b2:=decide ((0:Int)<u)) (λQ q=>⟨_,rfl,_,_,rfl,rfl,_,rfl,q⟩) (λQ q=>⟨_,rfl,_,_,rfl,rfl,_,rfl,q⟩) ?_;refine ite2 (λc=>?_) (λc=>?_)
 ·simp only[Bool.or_eq_true,xBm]at c;refine⟨λσ' H''=>H''=H'/\σ'=[some (.ref a),some (.int ((o/p:Nat):Int)),some (.int ((u/p:Nat):Int)),some (.int p),some (.int ((tt+(o+u)%p*p^k:Nat):Int)),some (.int ((p^k*p:Nat):Int))],?_,?_⟩
  ·rintro σ' H'' ⟨rfl,rfl⟩;have l1:o/p<=o:=Nat.div_le_self _ _;have l2:u/p<=u:=Nat.div_le_self _ _;have l3:o/p<o\/u/p<u:=by
    rcases c with c|c
    ·exact .inl (Nat.div_lt_self (by lia) (by lia))
    ·exact .inr (Nat.div_lt_self (by lia) (by lia))
   refine⟨_,?_,rfl,rfl,k+1,o/p,u/p,tt+(o+u)%p*p^k,rfl,?_,?_,?_,λi hi=>?_⟩
   ·show o/p+u/p<o+u;lia
   ·rw[ho,xAD,xBk]
   ·rw[hu,xAD,xBk]
   ·exact yf8 ht (xAR _ (by lia))
   ·rw[yf2 hp ht (xAR _ (by lia))];by_cases e:i=k
    ·rw[if_pos e,ho,hu,e];unfold dg;rw[Nat.add_mod]
    ·rw[if_neg e];exact hd i (by lia)
  ·walk_at "rd"
   refine⟨by show(0:Int)<p;lia,?_⟩
   walk_at "rd"
   have hm:(o+u)%p<p:=xAR _ (by lia);refine⟨.inl ⟨by show -(2^64:Int)<(((o+u)%p:Nat):Int);lia,by show(((o+u)%p:Nat):Int)<2^64;lia⟩,?_⟩
   walk_at "rd"
   refine⟨⟨by show(0:Int)<p;lia,by show(p:Int)<2^64;lia⟩,?_⟩
   walk_at "rd"
   refine⟨⟨by show(0:Int)<p;lia,by show(p:Int)<2^64;lia⟩,?_⟩
   walk_at "rd"
   refine⟨.inr ⟨by show -(2^64:Int)<p;lia,by show(p:Int)<2^64;lia⟩,?_⟩;exact⟨rfl,rfl⟩
 ·simp only[Bool.or_eq_true,xBm,not_or]at c;refine⟨_,rfl,q tt λi=>?_⟩;by_cases e:i<k
  ·exact hd i e
  ·have hx:x<p^k:=by
    rcases xAS x (p^k) with h|h
    ·exact h
    ·have:=Nat.div_pos h pk;lia
   have hy:y<p^k:=by
    rcases xAS y (p^k) with h|h
    ·exact h
    ·have:=Nat.div_pos h pk;lia
   rw[zar hp ht (by lia),zar hp hx (by lia),zar hp hy (by lia)];simp
noncomputable def yaV(K:PySem.W.Frag):Sp:=λvs H Q _=>∃(a:Addr) (p m t d x:Nat),vs=[.ref a,.int d,.int x]/\Fld K H a p m t/\2<=p/\p<=64/\d<2^64/\∀r:Nat,(∀i,dg p i r=d*dg p i x%p)->Q (.int r) H
theorem zaz:yah ["field","digit","one","p","total","unit"] ["field","digit","one"] (zae zbs):=⟨rfl,rfl,rfl,by decide +kernel,rfl,by decide +kernel,by decide +kernel⟩
theorem yc0(B:Bl mg)(F:Fun K "digit_times" "digit_times" zbs f fd):FnOk P w K mg base CX0 1 f fd ["field","digit","one"] (yaV K):=by
 refine F.ok zaz (λvs H Q E h=>?_) (λcdv A outer s H vs Q E hr h=>?_)
 ·obtain⟨a,p,m,t,x,y,rfl,_⟩:=h;rfl
 obtain⟨a,p,m,t,d,x,rfl,hF,hp,hp2,hd2,q⟩:=h;refine⟨_,(@zab _ _ _ _ _ (@zag _ _ 3 _ _ _ _ zaz.nd rfl (Or.inl rfl) (@zan _ _ _ _ _ _ _ zas (pv 0) yac (λ_ _=>rfl)) ⋯ (by trivial)) (@zab _ _ _ _ _ (@zag _ _ 4 _ _ _ _ zaz.nd rfl (Or.inl rfl) yac ⋯ (by trivial)) (@zab _ _ _ _ _ (@zag _ _ 5 _ _ _ _ zaz.nd rfl (Or.inl rfl) yac ⋯ (by trivial)) (@zab _ _ _ _ _ (@yaL _ _ _ _ _ _ xAl (@zai _ _ _ _ _ _ _ _ ybU (pv 2) yac (yak _)) (@zab _ _ _ _ _ (@zbA _ _ 4 _ _ _ _ _ _ zaz.nd rfl (Or.inl rfl) (@zaf _ _ _ _ _ _ _ _ zaU (@zaf _ _ _ _ _ _ _ _ yaz (@zaf _ _ _ _ _ _ _ _ zaU (pv 1) (pv 2)) (pv 3)) (pv 5)) zds (by trivial)) (@zab _ _ _ _ _ (@zbA _ _ 2 _ _ _ _ _ _ zaz.nd rfl (Or.inl rfl) (pv 3) ycF (by trivial)) (@yad _ _ _ (@zbA _ _ 5 _ _ _ _ _ _ zaz.nd rfl (Or.inl rfl) (pv 3) yex (by trivial)))))) (@yad _ _ _ (@yaj _ _ _ _ (pv 4))))))),?_⟩;refine⟨_,rfl,a,_,_,_,rfl,rfl,hF,rfl,?_⟩;refine zaL (λσ H'=>H'=H/\∃(k o tt:Nat),σ=[some (.ref a),some (.int d),some (.int o),some (.int p),some (.int tt),some (.int ((p^k:Nat):Int))]/\o=x/p^k/\tt<p^k/\∀i,i<k->dg p i tt=d*dg p i x%p)
  (λσ _=>mI σ 2) ⟨rfl,0,x,0,rfl,by simp,by simp,λi hi=>absurd hi (Nat.not_lt_zero _)⟩ ?_
 rintro σ H' ⟨rfl,k,o,tt,rfl,ho,ht,hd⟩;have pk:0<p^k:=xB1 (by lia)
 walk_at "rd"
 refine ite2 (λc=>?_) (λc=>?_)
 ·have c':0<o:=by have:=xAj c;lia
  refine⟨λσ' H''=>H''=H'/\σ'=[some (.ref a),some (.int d),some (.int ((o/p:Nat):Int)),some (.int p),some (.int ((tt+d*o%p*p^k:Nat):Int)),some (.int ((p^k*p:Nat):Int))],?_,?_⟩
  ·rintro σ' H'' ⟨rfl,rfl⟩;refine⟨_,?_,rfl,rfl,k+1,o/p,tt+d*o%p*p^k,rfl,?_,?_,λi hi=>?_⟩
   ·show o/p<o;exact Nat.div_lt_self c' (by lia)
   ·rw[ho,xAD,xBk]
   ·exact yf8 ht (xAR _ (by lia))
   ·rw[yf2 hp ht (xAR _ (by lia))];by_cases e:i=k
    ·rw[if_pos e,ho,e];unfold dg;rw[Nat.mul_mod_mod]
    ·rw[if_neg e];exact hd i (by lia)
  ·have hm:d*o%p<p:=xAR _ (by lia)
   walk_at "rd"
   refine⟨.inl ⟨by show -(2^64:Int)<(d:Int);lia,by show(d:Int)<2^64;lia⟩,?_⟩
   walk_at "rd"
   refine⟨by show(0:Int)<p;lia,?_⟩
   walk_at "rd"
   refine⟨.inl ⟨by show -(2^64:Int)<((d*o%p:Nat):Int);lia,by show((d*o%p:Nat):Int)<2^64;lia⟩,?_⟩
   walk_at "rd"
   refine⟨⟨by show(0:Int)<p;lia,by show(p:Int)<2^64;lia⟩,?_⟩
   walk_at "rd"
   refine⟨.inr ⟨by show -(2^64:Int)<p;lia,by show(p:Int)<2^64;lia⟩,?_⟩;exact⟨rfl,rfl⟩
 ·have c':o=0:=by have:=of_decide_eq_false (Bool.eq_false_iff.mpr c);lia
  refine⟨_,rfl,q tt λi=>?_⟩;by_cases e:i<k
  ·exact hd i e
  ·have hx:x<p^k:=by
    rcases xAS x (p^k) with h|h
    ·exact h
    ·have:=Nat.div_pos h pk;lia
   rw[zar hp ht (by lia),zar hp hx (by lia)];simp
noncomputable def zam:Sp:=λvs H Q _=>∃(b k:Nat),vs=[.int b,.int k]/\b<=64/\k<=1000/\Q (.int ((b^k:Nat):Int)) H
theorem yaT:yah ["base","many","product","step"] ["base","many"] (zae zbi):=⟨rfl,rfl,rfl,by decide +kernel,rfl,by decide +kernel,by decide +kernel⟩
theorem zcz(B:Bl mg)(F:Fun K "number_power" "number_power" zbi f fd):FnOk P w K mg base CX0 1 f fd ["base","many"] zam:=by
 refine F.ok yaT (λvs H Q E h=>?_) (λcdv A outer s H vs Q E hr h=>?_)
 ·obtain⟨b,k,rfl,_⟩:=h;rfl
 obtain⟨b,k,rfl,hb,hk,q⟩:=h;refine⟨_,(@zab _ _ _ _ _ (@zag _ _ 2 _ _ _ _ yaT.nd rfl (Or.inl rfl) yac ⋯ (by trivial)) (@zab _ _ _ _ _ (@yaC _ _ _ _ _ _ _ _ xAl rfl (@yaK _ _ _ _ _ _ rfl (B "range" (by decide)) (@zaa _ _ _ _ _ (pv 1) zac ⋯) ⋯) (@yae _ _ 3 _ yaT.nd rfl (Or.inl rfl) (by trivial)) (@yad _ _ _ (@zbA _ _ 2 _ _ _ _ _ _ yaT.nd rfl (Or.inl rfl) (pv 0) yex (by trivial))) (by intro _;rfl)) (@yad _ _ _ (@yaj _ _ _ _ (pv 2))))),?_⟩;refine⟨_,rfl,k,rfl,by lia,by lia,zaR (n:=k) (λi σ H'=>H'=H/\∃s,σ=[some (.int b),some (.int k),some (.int ((b^i:Nat):Int)),s]) ⟨rfl,none,rfl⟩ ?_ ?_⟩
 ·rintro i σ H' hi ⟨rfl,s,rfl⟩
  walk_at "rd"
  refine⟨.inr ⟨by lia,by lia⟩,rfl,some (.int (0+(i:Int))),?_⟩;rw[xAD];rfl
 ·rintro σ H' ⟨rfl,s,rfl⟩;exact⟨_,rfl,q⟩
theorem ydv{i j:Int}(h:i=j):V.int i=V.int j:=congrArg V.int h
noncomputable def ycq(K:PySem.W.Frag):Sp:=λvs H Q _=>∃(a:Addr) (p m t x y:Nat),vs=[.ref a,.int x,.int y]/\Fld K H a p m t/\2<=p/\p<=64/\∀r:Nat,(∀i,dg p i r=(dg p i x+(p-1)*dg p i y)%p)->Q (.int r) H
theorem zgA:yah ["field","one","other"] ["field","one","other"] (zae zet):=⟨rfl,rfl,rfl,by decide +kernel,rfl,by decide +kernel,by decide +kernel⟩
theorem ygl(B:Bl mg)(xC3:Has P w K mg base 1 "plus" ["field","one","other"] (zcb K))(xBR:Has P w K mg base 1 "digit_times" ["field","digit","one"] (yaV K))(F:Fun K "minus" "minus" zet f fd):FnOk P w K mg base CX0 2 f fd ["field","one","other"] (ycq K):=by
 refine F.ok zgA (λvs H Q E h=>?_) (λcdv A outer s H vs Q E hr h=>?_)
 ·obtain⟨a,p,m,t,x,y,rfl,_⟩:=h;rfl
 obtain⟨a,p,m,t,x,y,rfl,hF,hp,hp2,q⟩:=h;refine⟨_,(@yad _ _ _ (@yaj _ _ _ _ (@zad _ _ _ _ _ _ _ _ _ _ _ xC3 hr (by decide) rfl (@zaa _ _ _ _ _ (pv 0) (@zaa _ _ _ _ _ (pv 1) (@zaa _ _ _ _ _ (@zad _ _ _ _ _ _ _ _ _ _ _ xBR hr (by decide) rfl (@zaa _ _ _ _ _ (pv 0) (@zaa _ _ _ _ _ (@zaf _ _ _ _ _ _ _ _ yaG (@zan _ _ _ _ _ _ _ zas (pv 0) yac (λ_ _=>rfl)) yac) (@zaa _ _ _ _ _ (pv 2) zac ⋯) ⋯) ⋯) (by decide) ⋯ ⋯) zac ⋯) ⋯) ⋯) (by decide) ⋯ ⋯))),?_⟩
 walk_at "rd"
 refine⟨a,_,_,_,rfl,rfl,hF,rfl,?_⟩
 walk_at "rd"
 refine⟨a,p,m,t,p-1,y,by dsimp only;rw[show((p:Nat):Int)-1=((p-1:Nat):Int) by lia];rfl,hF,hp,hp2,by lia,λr1 h1=>?_⟩;refine⟨a,p,m,t,x,r1,rfl,hF,hp,hp2,λr h2=>q r λi=>?_⟩;rw[h2 i,h1 i,Nat.add_mod_mod]
noncomputable def yec(K:PySem.W.Frag):Sp:=λvs H Q _=>∃(a:Addr) (p m t x:Nat),vs=[.ref a,.int x]/\Fld K H a p m t/\2<=p/\1<=m/\p^m<=64/\t<p^m/\x<p^m/\∀r:Nat,(∀i,dg p i r=zaF m (λi=>dg p i t) (λi=>dg p i x) i%p)->Q (.int r) H
theorem p_le{p m:Nat}(hp:2<=p)(hm:1<=m)(h:p^m<=64):p<=64:=xAB (by simpa using xAI (n:=p) (by lia) hm) h
theorem m_le{p m:Nat}(hp:2<=p)(h:p^m<=64):m<=6:=by
 rcases xAS 6 m with h1|h1
 ·have:=Nat.pow_le_pow_left hp m;have:=xAI (n:=2) (by lia) h1;lia
 ·exact h1
theorem zbr:yah ["field","one","p","m","top","last_unit","moved"] ["field","one"] (zae ydI):=⟨rfl,rfl,rfl,by decide +kernel,rfl,by decide +kernel,by decide +kernel⟩
theorem yfY(B:Bl mg)(xC3:Has P w K mg base 1 "plus" ["field","one","other"] (zcb K))(xBR:Has P w K mg base 1 "digit_times" ["field","digit","one"] (yaV K))(xC1:Has P w K mg base 1 "number_power" ["base","many"] zam)(F:Fun K "lifted" "lifted" ydI f fd):FnOk P w K mg base CX0 2 f fd ["field","one"] (yec K):=by
 refine F.ok zbr (λvs H Q E h=>?_) (λcdv A outer s H vs Q E hr h=>?_)
 ·obtain⟨a,p,m,t,x,rfl,_⟩:=h;rfl
 obtain⟨a,p,m,t,x,rfl,hF,hp,hm,hpm,ht,hx,q⟩:=h;have hp2:=p_le hp hm hpm;have hm6:=m_le hp hpm;refine⟨_,(@zab _ _ _ _ _ (@yaU _ _ _ _ _ _ (pv 0) (@za2 _ _ _ _ _ _ rfl (@zah _ _ _ _ _ (@yae _ _ 2 _ zbr.nd rfl (Or.inl rfl) (by trivial)) (@zah _ _ _ _ _ (@yae _ _ 3 _ zbr.nd rfl (Or.inl rfl) (by trivial)) (@zah _ _ _ _ _ (@yae _ _ 4 _ zbr.nd rfl (Or.inl rfl) (by trivial)) zaE ⋯) ⋯) ⋯) ⋯ ⋯) ⋯ ⋯ ⋯) (@zab _ _ _ _ _ (@zag _ _ 5 _ _ _ _ zbr.nd rfl (Or.inl rfl) (@zad _ _ _ _ _ _ _ _ _ _ _ xC1 hr (by decide) rfl (@zaa _ _ _ _ _ (pv 2) (@zaa _ _ _ _ _ (@zaf _ _ _ _ _ _ _ _ yaG (pv 3) yac) zac ⋯) ⋯) (by decide) ⋯ ⋯) ⋯ (by trivial)) (@zab _ _ _ _ _ (@zag _ _ 6 _ _ _ _ zbr.nd rfl (Or.inl rfl) (@zaf _ _ _ _ _ _ _ _ zaU (@zaf _ _ _ _ _ _ _ _ yaz (pv 1) (pv 5)) (pv 2)) ⋯ (by trivial)) (@yad _ _ _ (@yaj _ _ _ _ (@zad _ _ _ _ _ _ _ _ _ _ _ xC3 hr (by decide) rfl (@zaa _ _ _ _ _ (pv 0) (@zaa _ _ _ _ _ (pv 6) (@zaa _ _ _ _ _ (@zad _ _ _ _ _ _ _ _ _ _ _ xBR hr (by decide) rfl (@zaa _ _ _ _ _ (pv 0) (@zaa _ _ _ _ _ (@zaf _ _ _ _ _ _ _ _ ycz (pv 1) (pv 5)) (@zaa _ _ _ _ _ (pv 4) zac ⋯) ⋯) ⋯) (by decide) ⋯ ⋯) zac ⋯) ⋯) ⋯) (by decide) ⋯ ⋯)))))),?_⟩;refine⟨_,rfl,a,_,rfl,hF,rfl,_,_,rfl,_,_,rfl,_,_,rfl,rfl,?_⟩
 walk_at "rd"
 refine⟨p,m-1,by dsimp only;rw[show((m:Nat):Int)-1=((m-1:Nat):Int) by lia];rfl,hp2,by lia,?_⟩;have hl:p^(m-1)<=64:=xAB (xAI (by lia) (by lia)) hpm;have hl0:0<p^(m-1):=xB1 (by lia)
 walk_at "rd"
 refine⟨by show(0:Int)<((p^(m-1):Nat):Int);lia,?_⟩
 walk_at "rd"
 refine⟨.inr ⟨by show -(2^64:Int)<(p:Int);lia,by show(p:Int)<2^64;lia⟩,?_⟩
 walk_at "rd"
 refine⟨⟨by show(0:Int)<((p^(m-1):Nat):Int);lia,by show((p^(m-1):Nat):Int)<2^64;lia⟩,?_⟩
 walk_at "rd"
 have hdl:=zhr hp hm hx;have hdl2:=yhQ hp (m-1) x;refine⟨a,p,m,t,x/p^(m-1),t,rfl,hF,hp,hp2,by lia,λr1 h1=>?_⟩;refine⟨a,p,m,t,x%p^(m-1)*p,r1,rfl,hF,hp,hp2,λr h2=>q r λi=>?_⟩;rw[h2 i,h1 i,yie hp,yhP hp,hdl,Nat.add_mod_mod];unfold zaF yaJ;by_cases hi:i<m
 ·rw[if_pos hi];by_cases h0:i=0
  ·rw[if_pos h0,if_pos h0]
  ·rw[if_neg h0,if_neg h0,if_pos (by lia)]
 ·rw[if_neg hi,if_neg (by lia),if_neg (by lia),zar hp ht (by lia)];simp
noncomputable def ybv(K:PySem.W.Frag):Sp:=λvs H Q _=>∃(a:Addr) (p m t x y:Nat),vs=[.ref a,.int x,.int y]/\Fld K H a p m t/\2<=p/\1<=m/\p^m<=64/\t<p^m/\x<p^m/\y<p^m/\
 ∀r:Nat,r<p^m->(∀i,i<m->dg p i r=tn m (λi=>dg p i t) m (λi=>dg p i x) (λi=>dg p i y) i%p)->Q (.int r) H
theorem zbQ:yah ["field","one","other","p","total"] ["field","one","other"] (zae zeu):=⟨rfl,rfl,rfl,by decide +kernel,rfl,by decide +kernel,by decide +kernel⟩
theorem ygS(B:Bl mg)(xC3:Has P w K mg base 1 "plus" ["field","one","other"] (zcb K))(xBR:Has P w K mg base 1 "digit_times" ["field","digit","one"] (yaV K))(xBW:Has P w K mg base 2 "lifted" ["field","one"] (yec K))(F:Fun K "times" "times" zeu f fd):FnOk P w K mg base CX0 3 f fd ["field","one","other"] (ybv K):=by
 refine F.ok zbQ (λvs H Q E h=>?_) (λcdv A outer s H vs Q E hr h=>?_)
 ·obtain⟨a,p,m,t,x,y,rfl,_⟩:=h;rfl
 obtain⟨a,p,m,t,x,y,rfl,hF,hp,hm,hpm,ht,hx,hy,q⟩:=h;have hp2:=p_le hp hm hpm;refine⟨_,(@zab _ _ _ _ _ (@zag _ _ 3 _ _ _ _ zbQ.nd rfl (Or.inl rfl) (@zan _ _ _ _ _ _ _ zas (pv 0) yac (λ_ _=>rfl)) ⋯ (by trivial)) (@zab _ _ _ _ _ (@zag _ _ 4 _ _ _ _ zbQ.nd rfl (Or.inl rfl) yac ⋯ (by trivial)) (@zab _ _ _ _ _ (@yaL _ _ _ _ _ _ xAl (@zai _ _ _ _ _ _ _ _ ybU (pv 1) yac (yak _)) (@zab _ _ _ _ _ (@zag _ _ 4 _ _ _ _ zbQ.nd rfl (Or.inl rfl) (@zad _ _ _ _ _ _ _ _ _ _ _ xC3 hr (by decide) rfl (@zaa _ _ _ _ _ (pv 0) (@zaa _ _ _ _ _ (pv 4) (@zaa _ _ _ _ _ (@zad _ _ _ _ _ _ _ _ _ _ _ xBR hr (by decide) rfl (@zaa _ _ _ _ _ (pv 0) (@zaa _ _ _ _ _ (@zaf _ _ _ _ _ _ _ _ yaz (pv 1) (pv 3)) (@zaa _ _ _ _ _ (pv 2) zac ⋯) ⋯) ⋯) (by decide) ⋯ ⋯) zac ⋯) ⋯) ⋯) (by decide) ⋯ ⋯) ⋯ (by trivial)) (@zab _ _ _ _ _ (@zbA _ _ 1 _ _ _ _ _ _ zbQ.nd rfl (Or.inl rfl) (pv 3) ycF (by trivial)) (@yad _ _ _ (@za3 _ _ _ _ _ _ _ _ (@zai _ _ _ _ _ _ _ _ ybU (pv 1) yac (yak _)) (@yad _ _ _ (@zag _ _ 2 _ _ _ _ zbQ.nd rfl (Or.inl rfl) (@zad _ _ _ _ _ _ _ _ _ _ _ xBW hr (by decide) rfl (@zaa _ _ _ _ _ (pv 0) (@zaa _ _ _ _ _ (pv 2) zac ⋯) ⋯) (by decide) ⋯ ⋯) ⋯ (by trivial))) zaw))))) (@yad _ _ _ (@yaj _ _ _ _ (pv 4)))))),?_⟩;refine⟨_,rfl,a,_,_,_,rfl,rfl,hF,rfl,?_⟩;refine zaL (λσ H'=>H'=H/\∃(k o u tt:Nat),σ=[some (.ref a),some (.int o),some (.int u),some (.int p),some (.int tt)]/\o<p^k/\u<p^m/\tt<p^m/\
   ∀i,i<m->(dg p i tt+tn m (λi=>dg p i t) k (λi=>dg p i o) (λi=>dg p i u) i)%p=tn m (λi=>dg p i t) m (λi=>dg p i x) (λi=>dg p i y) i%p)
  (λσ _=>mI σ 1) ⟨rfl,m,x,y,0,rfl,hx,hy,xB1 (by lia),λi _=>by rw[zbf,Nat.zero_add]⟩ ?_
 rintro σ H' ⟨rfl,k,o,u,tt,rfl,ho,hu,htt,hd⟩
 walk_at "rd"
 refine ite2 (λc=>?_) (λc=>?_)
 ·have c':0<o:=by have:=xAj c;lia
  have hk:k≠0:=λe=>by rw[e]at ho;simp at ho;lia
  obtain⟨k,rfl⟩:∃j,k=j+1:=⟨k-1,by lia⟩
  have om:o%p<p:=xAR _ (by lia);have ho2:o/p<p^k:=Nat.div_lt_of_lt_mul (by rw[xAD,xBb]at ho;exact ho);have ho3:o/p<o:=Nat.div_lt_self c' (by lia);refine⟨λσ' H''=>H''=H'/\∃(o' u' t':Nat),o'=o/p/\σ'=[some (.ref a),some (.int o'),some (.int u'),some (.int p),some (.int t')]/\u'<p^m/\t'<p^m/\
   ∀i,i<m->(dg p i t'+tn m (λi=>dg p i t) k (λi=>dg p i o') (λi=>dg p i u') i)%p=tn m (λi=>dg p i t) m (λi=>dg p i x) (λi=>dg p i y) i%p,?_,?_⟩
  ·rintro σ' H'' ⟨rfl,o',u',t',rfl,rfl,b1,b2,b3⟩;exact⟨_,by show o/p<o;exact ho3,rfl,rfl,k,o/p,u',t',rfl,ho2,b1,b2,b3⟩
  walk_at "rd"
  refine⟨by show(0:Int)<p;lia,?_⟩
  walk_at "rd"
  refine⟨a,p,m,t,o%p,u,rfl,hF,hp,hp2,by lia,λr1 h1=>?_⟩;refine⟨a,p,m,t,tt,r1,rfl,hF,hp,hp2,λr2 h2=>?_⟩;have hr2:r2<p^m:=zce hp λi hi=>by rw[h2 i,h1 i,zar hp htt hi,zar hp hu hi];simp
  have hd2:∀i,i<m->(dg p i r2+tn m (λi=>dg p i t) k (λi=>dg p i (o/p)) (zaF m (λi=>dg p i t) λi=>dg p i u) i)%p=tn m (λi=>dg p i t) m (λi=>dg p i x) (λi=>dg p i y) i%p:=λi hi=>by
   rw[<-hd i hi,h2 i,h1 i];show _=(dg p i tt+(dg p 0 o*dg p i u+tn m (λi=>dg p i t) k (λj=>dg p (j+1) o) (zaF m (λi=>dg p i t) λi=>dg p i u) i))%p;rw[zcI,zbh,<-Nat.add_assoc];refine ybr ?_ rfl;rw[Nat.mod_mod];exact ybr rfl (Nat.mod_mod _ _)
  walk_at "rd"
  refine⟨⟨by show(0:Int)<p;lia,by show(p:Int)<2^64;lia⟩,?_⟩
  walk_at "rd"
  refine ite2 (λc2=>?_) (λc2=>?_)
  ·walk_at "rd"
   refine⟨a,p,m,t,u,rfl,hF,hp,hm,hpm,ht,hu,λr3 h3=>?_⟩;have hr3:r3<p^m:=zce hp λi hi=>by rw[h3 i];unfold zaF;rw[if_neg (by lia)];simp
   refine⟨rfl,o/p,r3,r2,rfl,rfl,hr3,hr2,λi hi=>?_⟩;rw[<-hd2 i hi];exact ybr rfl (ybc hm k _ _ _ (λj _=>by rw[h3 j,Nat.mod_mod]) i hi)
  ·have c3:o/p=0:=by have:=of_decide_eq_false (Bool.eq_false_iff.mpr c2);exact Nat.le_zero.mp (Int.ofNat_le.mp (show((o/p:Nat):Int)<=((0:Nat):Int) from Int.not_lt.mp this))
   refine⟨rfl,o/p,u,r2,rfl,rfl,hu,hr2,λi hi=>?_⟩;rw[<-hd2 i hi,c3,zcf k _ _ i (λj=>zbf p j),zcf k _ _ i (λj=>zbf p j)]
 ·have c':o=0:=by have:=of_decide_eq_false (Bool.eq_false_iff.mpr c);lia
  refine⟨_,rfl,q tt htt λi hi=>?_⟩;rw[<-hd i hi,c',zcf k _ _ i (λj=>zbf p j),Nat.add_zero,zd3]
end
end My
end
section
-- text: P2
namespace My
open PySem L2 Dg
local macro_rules | `(tactic| walk_at "rd") => `(tactic| repeat (first | refine ⟨_, rfl, ?_⟩ | refine ⟨_, _, rfl, rfl, ?_⟩))
theorem yab{H:Hp}{p:Addr}(h:H p=none)(o:HO):Same H (upd H p o):=λb u q=>by rw[yag (yaf q h)];exact q
noncomputable abbrev Vn(n:Nat):V:=.int (n:Int)
noncomputable def Pu(H:Hp)(a g:Addr):Prop:=∃(ns:List Nat) (s t:Nat),H a=some (.lst [.ref g,Vn s,Vn t])/\H g=some (.lst (ns.map Vn))
theorem Pu.ne{H:Hp}{a g:Addr}(h:Pu H a g):a≠g:=by
 obtain⟨ns,s,t,h1,h2⟩:=h;intro e;subst e;rw[h1]at h2;have h3:=HO.lst.inj (xAv h2);cases ns with
 |nil=>cases h3
 |cons n ns=>cases h3
noncomputable def yar(a g:Addr)(H H':Hp):Prop:=∀b o,b≠a->b≠g->H b=some o->H' b=some o
theorem yar.refl{a g:Addr}{H:Hp}:yar a g H H:=λ_ _ _ _ e=>e
theorem yar.trans{a g:Addr}{H H1 H2:Hp}(h1:yar a g H H1)(h2:yar a g H1 H2):yar a g H H2:=λb o n1 n2 e=>h2 b o n1 n2 (h1 b o n1 n2 e)
theorem Same.x{a g:Addr}{H H1:Hp}(h:Same H H1):yar a g H H1:=λb o _ _ e=>h b o e
theorem Pu.same{H H':Hp}{a g:Addr}(h:Pu H a g)(s:Same H H'):Pu H' a g:=by
 obtain⟨ns,x,t,h1,h2⟩:=h;exact⟨ns,x,t,s _ _ h1,s _ _ h2⟩
theorem szl(n:Nat)(h:n<=100000:=by lia):n<=sizeLine:=by rw[sizeLine_eq];lia
section
variable {P:Program} {w:World} {K:PySem.W.Frag} {mg:Str->Option Value} {base:Heap} {f:Addr} {fd:FuncData}
theorem yaY:yah ["_law_one","_law_many","_law_found","_law_turn"] ["_law_one","_law_many"] (zae ybt):=⟨rfl,rfl,rfl,by decide +kernel,rfl,by decide +kernel,by decide +kernel⟩
theorem zfs(B:Bl mg)(F:Fun K "_law_raised" "_law_raised" ybt f fd):FnOk P w K mg base CX0 1 f fd ["_law_one","_law_many"] zam:=by
 refine F.ok yaY (λvs H Q E h=>?_) (λcdv A outer s H vs Q E hr h=>?_)
 ·obtain⟨b,k,rfl,_⟩:=h;rfl
 obtain⟨b,k,rfl,hb,hk,q⟩:=h;refine⟨_,(zab (@zag _ _ 2 _ _ _ _ yaY.nd rfl (Or.inl rfl) yac ⋯ (by trivial)) (zab (@yaC _ _ _ _ _ _ _ _ xAl rfl (@yaK _ _ _ _ _ _ rfl (B "range" (by decide)) (zaa (pv 1) zac ⋯) ⋯) (@yae _ _ 3 _ yaY.nd rfl (Or.inl rfl) (by trivial)) (yad (@zag _ _ 2 _ _ _ _ yaY.nd rfl (Or.inl rfl) (zaf zaU (pv 2) (pv 0)) ⋯ (by trivial))) (by intro _;rfl)) (yad (@yaj _ _ _ _ (pv 2))))),?_⟩;refine⟨_,rfl,k,rfl,by lia,by lia,zaR (n:=k) (λi σ H'=>H'=H/\∃s,σ=[some (.int b),some (.int k),some (.int ((b^i:Nat):Int)),s]) ⟨rfl,none,rfl⟩ ?_ ?_⟩
 ·rintro i σ H' hi ⟨rfl,s,rfl⟩
  walk_at "rd"
  refine⟨.inr ⟨by lia,by lia⟩,rfl,some (.int (0+(i:Int))),?_⟩;rw[xAD];rfl
 ·rintro σ H' ⟨rfl,s,rfl⟩;exact⟨_,rfl,q⟩
noncomputable def digL(p m x:Nat):List V:=(List.range m).map λi=>Vn (dg p i x)
theorem zfT(p m x:Nat):digL p (m+1) x=digL p m x++[Vn (dg p m x)]:=by unfold digL;rw[xBd,xAe];rfl
theorem zbw(p m x:Nat):(digL p m x).length=m:=by simp[digL]
noncomputable def zed(K:PySem.W.Frag):Sp:=λvs H Q _=>∃(a:Addr) (p m t x:Nat),vs=[.ref a,.int x]/\Fld K H a p m t/\2<=p/\p<=64/\m<=64/\∀r H',H r=none->Same H H'->H' r=some (.lst (digL p m x))->Q (.ref r) H'
theorem yaZ:yah ["_law_field_here","_law_thing","_law_found","_law_k"] ["_law_field_here","_law_thing"] (zae zby):=⟨rfl,rfl,rfl,by decide +kernel,rfl,by decide +kernel,by decide +kernel⟩
theorem zfQ(B:Bl mg)(F:Fun K "_law_digits" "_law_digits" zby f fd):FnOk P w K mg base CX0 1 f fd ["_law_field_here","_law_thing"] (zed K):=by
 refine F.ok yaZ (λvs H Q E h=>?_) (λcdv A outer s H vs Q E hr h=>?_)
 ·obtain⟨a,p,m,t,x,rfl,_⟩:=h;rfl
 obtain⟨a,p,m,t,x,rfl,hF,hp,hp2,hm,q⟩:=h;refine⟨_,(zab (@zag _ _ 2 _ _ _ _ yaZ.nd rfl (Or.inl rfl) (@yaA _ _ _ _ zac) ⋯ (by trivial)) (zab (@yaC _ _ _ _ _ _ _ _ xAl rfl (@yaK _ _ _ _ _ _ rfl (B "range" (by decide)) (zaa (zan zas (pv 0) yac (λ_ _=>rfl)) zac ⋯) ⋯) (@yae _ _ 3 _ yaZ.nd rfl (Or.inl rfl) (by trivial)) (zab (@ycf _ _ _ _ (@zfi _ _ _ _ _ _ _ _ _ _ _ _ PySem.F.plainAttrs_list PySem.F.slot_list_append PySem.F.type_list_append yb6 (pv 2) (zaa (zaf yaz (pv 1) (zan zas (pv 0) yac (λ_ _=>rfl))) zac ⋯) ⋯ ⋯ ⋯ ⋯ ⋯) ⋯) (yad (@zag _ _ 1 _ _ _ _ yaZ.nd rfl (Or.inl rfl) (zaf ycz (pv 1) (zan zas (pv 0) yac (λ_ _=>rfl))) ⋯ (by trivial)))) (by intro _;rfl)) (yad (@yaj _ _ _ _ (pv 2))))),?_⟩;refine⟨szl 0,λl hl=>?_⟩;have g1:Same H (upd H l (.lst [])):=yab hl _;refine⟨_,rfl,a,_,_,_,rfl,rfl,Same.tup g1 hF,rfl,m,rfl,by lia,by lia,zaR (n:=m) (λi σ H'=>H'=upd H l (.lst (digL p i x))/\∃s,σ=[some (.ref a),some (.int ((x/p^i:Nat):Int)),some (.ref l),s]) ⟨rfl,none,by simp;rfl⟩ ?_ ?_⟩
 ·rintro i σ H' hi ⟨rfl,s,rfl⟩;have g2:Same H (upd H l (.lst (digL p i x))):=yab hl _;refine⟨_,rfl,.inl ⟨rfl,_,SqL.of yaa⟩,?_⟩
  walk_at "rd"
  refine⟨a,_,_,_,rfl,rfl,Same.tup g2 hF,rfl,?_⟩
  walk_at "rd"
  refine⟨by show(0:Int)<p;lia,l,_,_,rfl,rfl,yaa,by rw[zbw];exact Nat.lt_of_le_of_lt (show i<=1000 by lia) (yao (xA4 _)),?_⟩;rw[zek];have g3:Same H (upd H l (.lst (digL p (i+1) x))):=yab hl _;have e1:digL p i x++[V.int (((x/p^i:Nat):Int)%(p:Int))]=digL p (i+1) x:=by rw[zfT];rfl
  rw[e1];refine⟨_,rfl,_,rfl,a,_,_,_,rfl,rfl,Same.tup g3 hF,rfl,?_⟩
  walk_at "rd"
  refine⟨⟨by show(0:Int)<p;lia,by show(p:Int)<2^64;lia⟩,rfl,some (.int (0+(i:Int))),?_⟩;rw[xAD,<-xBk];rfl
 ·rintro σ H' ⟨rfl,s,rfl⟩;exact⟨_,rfl,q l _ hl (yab hl _) yaa⟩
noncomputable def num(p:Nat):List Nat->Nat
 | []=>0
 |d::ds=>num p ds*p+d
theorem yfE{p:Nat}(hp:2<=p):∀(ds:List Nat),(∀d∈ds,d<p)->∀i,dg p i (num p ds)=ds.getD i 0
 | [],_,i=>by simp[num,zbf]
 |d::ds,h,i=>by
  have hd:d<p:=h d xAb;have ih:=yfE hp ds λx hx=>h x (xA7 _ hx)
  cases i with
  |zero=>rw[zbh];show(num p ds*p+d)%p=d;rw[xBb,Nat.mul_add_mod,Nat.mod_eq_of_lt hd]
  |succ i=>
   rw[ybw];show dg p i ((num p ds*p+d)/p)=ds.getD i 0;rw[xBb,Nat.mul_add_div (by lia),Nat.div_eq_of_lt hd,Nat.add_zero];exact ih i
noncomputable def zdO(K:PySem.W.Frag):Sp:=λvs H Q _=>∃(a b:Addr) (p m t:Nat) (ds:List Nat),vs=[.ref a,.ref b]/\Fld K H a p m t/\2<=p/\p<=64/\SqL K H b (ds.map Vn)/\∀H',Same H H'->Q (Vn (num p ds)) H'
theorem zaX:yah ["_law_field_here","_law_digits_here","_law_found","_law_digit"] ["_law_field_here","_law_digits_here"] (zae zbx):=⟨rfl,rfl,rfl,by decide +kernel,rfl,by decide +kernel,by decide +kernel⟩
theorem zfI(B:Bl mg)(F:Fun K "_law_number" "_law_number" zbx f fd):FnOk P w K mg base CX0 1 f fd ["_law_field_here","_law_digits_here"] (zdO K):=by
 refine F.ok zaX (λvs H Q E h=>?_) (λcdv A outer s H vs Q E hr h=>?_)
 ·obtain⟨a,b,p,m,t,ds,rfl,_⟩:=h;rfl
 obtain⟨a,b,p,m,t,ds,rfl,hF,hp,hp2,hb,q⟩:=h;refine⟨_,(zab (@zag _ _ 2 _ _ _ _ zaX.nd rfl (Or.inl rfl) yac ⋯ (by trivial)) (zab (@yaC _ _ _ _ _ _ _ _ xAl rfl (@yaN _ _ _ _ (@zh0 _ _ _ _ _ _ _ _ (pv 1))) (@yae _ _ 3 _ zaX.nd rfl (Or.inl rfl) (by trivial)) (yad (@zag _ _ 2 _ _ _ _ zaX.nd rfl (Or.inl rfl) (zaf zau (zaf zaU (pv 2) (zan zas (pv 0) yac (λ_ _=>rfl))) (pv 3)) ⋯ (by trivial))) (by intro _;rfl)) (yad (@yaj _ _ _ _ (pv 2))))),?_⟩;refine⟨_,rfl,b,_,rfl,hb,λl hl=>?_⟩;have g1:Same H (upd H l (.lst (ds.map Vn).reverse)):=yab hl _;refine⟨l,rfl,⟨_,SqL.of yaa⟩,ydD (xs:=(ds.map Vn).reverse) (λi σ H'=>H'=upd H l (.lst (ds.map Vn).reverse)/\∃s,σ=[some (.ref a),some (.ref b),some (Vn (num p (ds.drop (ds.length-i)))),s]) ⟨rfl,none,by rw[Nat.sub_zero,List.drop_length];rfl⟩ ?_ ?_ ?_⟩
 ·rintro i σ H' hi ⟨rfl,_⟩;exact SqL.of yaa
 ·rintro i x σ H' hx ⟨rfl,s,rfl⟩;have hi:i<ds.length:=by have:=(xAk.mp hx).1;simpa using this
  have ex:x=Vn (ds[ds.length-1-i]):=by
   rw[List.getElem?_reverse (by simpa using hi),xA8,xA0,xA5 (by lia)]at hx;exact(xAv hx).symm
  subst ex
  walk_at "rd"
  refine⟨a,_,_,_,rfl,rfl,Same.tup g1 hF,rfl,?_⟩
  walk_at "rd"
  refine⟨.inr ⟨by show -(2^64:Int)<(p:Int);lia,by show(p:Int)<2^64;lia⟩,?_⟩
  walk_at "rd"
  refine⟨rfl,some (Vn (ds[ds.length-1-i])),?_⟩;have e:ds.drop (ds.length-(i+1))=ds[ds.length-1-i]::ds.drop (ds.length-i):=by
   rw[show ds.length-(i+1)=ds.length-1-i by lia,List.drop_eq_getElem_cons (by lia)];congr 2;lia
  rw[e];rfl
 ·rintro σ H' ⟨rfl,s,rfl⟩;refine⟨_,rfl,?_⟩;have e:ds.length-(ds.map Vn).reverse.length=0:=by simp
  rw[e,List.drop_zero];exact q _ g1
noncomputable def zeU(K:PySem.W.Frag):Sp:=λvs H Q _=>∃(a:Addr) (ns:List Int),vs=[.ref a]/\SqL K H a (ns.map V.int)/\∀r g H',H r=none->H g=none->Same H H'->Pu H' r g->Q (.ref r) H'
theorem ya4:yah ["_law_script","_law_seed","_law_great","_law_cell"] ["_law_script"] (zae ybE):=⟨rfl,rfl,rfl,by decide +kernel,rfl,by decide +kernel,by decide +kernel⟩
theorem ygW{i:Int}(h:0<=i):∃n:Nat,V.int i=Vn n:=by obtain⟨n,e⟩:=Int.eq_ofNat_of_zero_le h;exact⟨n,by rw[e]⟩
theorem zgL(B:Bl mg)(F:Fun K "_law_purse" "_law_purse" ybE f fd):FnOk P w K mg base CX0 1 f fd ["_law_script"] (zeU K):=by
 refine F.ok ya4 (λvs H Q E h=>?_) (λcdv A outer s H vs Q E hr h=>?_)
 ·obtain⟨a,ns,rfl,_⟩:=h;rfl
 obtain⟨a,ns,rfl,ha,q⟩:=h;refine⟨_,(zab (@ybS _ _ 1 2 _ _ _ _ _ _ _ _ _ _ _ rfl ya4.nd rfl rfl (by decide) rfl rfl (zaa yac (zaa (@yaA _ _ _ _ zac) zac ⋯) ⋯) rfl ⋯) (zab (@yaC _ _ _ _ _ _ _ _ xAl rfl (@yaN _ _ _ _ (@zcs _ _ _ _ _ _ _ _ _ _ yef (pv 0) zdr (@zdn _ _ _ yac))) (@yae _ _ 3 _ ya4.nd rfl (Or.inl rfl) (by trivial)) (zab (@zag _ _ 1 _ _ _ _ ya4.nd rfl (Or.inl rfl) (zaf yaz (zaf zau (zaf zau (zaf zaU (pv 1) yac) (zaf yaz (pv 3) yac)) yac) yac) ⋯ (by trivial)) (yad (@za3 _ _ _ _ _ _ _ _ (@zai _ _ _ _ _ _ _ _ yic (zal zeZ rfl (B "abs" (by decide)) ycD (zaa (pv 3) zac ⋯) (by decide) (by decide) ⋯ ⋯) (zaf yeJ yac yac) (yak _)) (yad (@ycf _ _ _ _ (@zfi _ _ _ _ _ _ _ _ _ _ _ _ PySem.F.plainAttrs_list PySem.F.slot_list_append PySem.F.type_list_append yb6 (pv 2) (zaa (zaf yaz (zal zeZ rfl (B "abs" (by decide)) ycD (zaa (pv 3) zac ⋯) (by decide) (by decide) ⋯ ⋯) (zaf zhB (zaf yeJ yac yac) (zaf yeJ yac yac))) zac ⋯) ⋯ ⋯ ⋯ ⋯ ⋯) ⋯)) zaw))) (by intro _;rfl)) (yad (@yaj _ _ _ _ (@yaA _ _ _ _ (zaa (pv 2) (zaa (pv 1) (zaa yac zac ⋯) ⋯) ⋯)))))),?_⟩;refine⟨szl 0,λg hg=>?_⟩;have g1:Same H (upd H g (.lst [])):=yab hg _;refine⟨_,_,rfl,?_⟩;refine⟨_,rfl,_,rfl,a,_,rfl,g1.seq ha,λl hl=>?_⟩;generalize hcut:cutV (ns.map V.int) none (some 40)=cs;have hcs:∀x∈cs,∃i:Int,x = .int i:=λx hx=>by
  rw[<-hcut]at hx;unfold cutV at hx;obtain⟨i,_,e⟩:=xAg.mp (List.mem_of_mem_drop (List.mem_of_mem_take hx));exact⟨i,e.symm⟩
 have hlen:cs.length<=40:=by
  rw[<-hcut];unfold cutV;rw[xAC,show HT.sIx (ns.map V.int).length (ns.map V.int).length (some 40)=min 40 (ns.map V.int).length from HT.sIx_nat _ _ 40];lia
 have hgl:l≠g:=λe=>by rw[e,yaa]at hl;cases hl
 refine⟨l,rfl,⟨_,SqL.of yaa⟩,ydD (xs:=cs) (λi σ H'=>(∃(s:Nat) (x:Option V) (gs:List Nat),gs.length<=i/\σ=[some (.ref a),some (Vn s),some (.ref g),x]/\H' g=some (.lst (gs.map Vn)))/\Same H H'/\H' l=some (.lst cs))
  ⟨⟨7,none,[],xA4 _,rfl,by rw[yag (Ne.symm hgl)];exact yaa⟩,g1.trans (yab hl _),yaa⟩ ?_ ?_ ?_⟩
 ·rintro i σ H' hi ⟨_,_,h⟩;exact SqL.of h
 ·rintro i x σ H' hx ⟨⟨s,x0,gs,hgs,rfl,hg'⟩,sm,hl'⟩;obtain⟨c,rfl⟩:=hcs x (xBc hx);have hi:i<cs.length:=(xAk.mp hx).1
  walk_at "rd"
  refine⟨.inr ⟨by decide,by decide⟩,?_⟩
  walk_at "rd"
  refine⟨by show(0:Int)<2305843009213693951;decide,?_⟩
  walk_at "rd"
  refine⟨by show(0:Int)<2305843009213693951;decide,?_⟩;obtain⟨s',es⟩:=ygW (i:=((s:Int)*1000003+c%2305843009213693951+12345)%2305843009213693951) (Int.emod_nonneg _ (by decide));dsimp only[yau];rw[es];refine⟨_,rfl,_,rfl,_,_,rfl,rfl,⟨by decide,by decide,by decide⟩,?_⟩;refine⟨_,_,rfl,rfl,_,rfl,?_⟩;refine ite2 (λc2=>?_) (λc2=>?_)
  ·refine⟨_,rfl,.inl ⟨rfl,_,SqL.of hg'⟩,?_⟩;refine⟨_,rfl,_,rfl,_,_,rfl,rfl,⟨by decide,by decide,by decide⟩,?_⟩;refine⟨_,_,rfl,rfl,⟨by decide,by decide,by decide⟩,?_⟩;refine⟨_,_,rfl,rfl,IntMulOk.of_bits (by decide +kernel) (by decide +kernel),?_⟩;refine⟨_,_,rfl,rfl,by show(0:Int)<10^Int.toNat 60*10^Int.toNat 60;decide +kernel,?_⟩;obtain⟨d,ed⟩:=ygW (i:=(if c<0 then -c else c)%(10^(60:Int).toNat*10^(60:Int).toNat)) (Int.emod_nonneg _ (by decide));dsimp only;rw[ed];refine⟨g,_,_,rfl,rfl,hg',?_,⟨s',some (.int c),gs++[d],by simp;lia,rfl,by rw[yaa,xAe];rfl⟩,?_,?_⟩
   ·rw[xA0];exact Nat.lt_of_le_of_lt (show gs.length<=1000 by lia) (yao (xA4 _))
   ·intro b o e;rw[yag (yaf e hg)];exact sm b o e
   ·rw[yag hgl];exact hl'
  ·exact⟨⟨s',some (.int c),gs,by lia,rfl,hg'⟩,sm,hl'⟩
 ·rintro σ H' ⟨⟨s,x,gs,hgs,rfl,hg'⟩,sm,_⟩;refine⟨_,rfl,_,rfl,szl 3,λr hr=>?_⟩;have ne:g≠r:=yaf hg' hr;refine q r g _ (sm.free hr) hg (sm.trans (yab hr _)) ⟨gs,s,0,yaa,?_⟩;rw[yag ne];exact hg'
theorem ydt{α:Type}(x:α)(xs:List α):atI (x::xs) 0=some x:=zaN (j:=0) rfl
theorem zeS{n:Nat}(h:0<n):ixN n 0=some 0:=by
 unfold ixN;rw[if_pos (by decide),if_pos (by lia)];rfl
theorem za9{t u:TS}{D:Ends}{σ:St}{H:Hp}(Ex:St->Hp->Prop)(r:∀σ' H',Ex σ' H'->u D σ' H')(h:∀D':Ends,D'.rt=D.rt->D'.bk=D.bk->D'.ct=D.ct->(∀σ' H',Ex σ' H'->D'.nx σ' H')->t D' σ H):tSeq t u D σ H:=h _ rfl rfl rfl r
noncomputable def ycO:Sp:=λvs H Q _=>∃(a g:Addr) (n:Nat),vs=[.ref a,Vn n]/\Pu H a g/\0<n/\n<2^200/\∀(r:Nat) H',r<n->Pu H' a g->yar a g H H'->Q (Vn r) H'
noncomputable def zdk(H:Hp)(g:Addr):Nat:=match H g with
 |some (.lst xs)=>xs.length
 |_=>0
theorem zbN{H:Hp}{g:Addr}{xs:List V}(h:H g=some (.lst xs)):zdk H g=xs.length:=by unfold zdk;rw[h]
theorem modn{x:Int}{n:Nat}(h:0<n):∃r:Nat,r<n/\V.int (x%(n:Int))=Vn r:=by
 have h1:=Int.emod_nonneg x (show(n:Int)≠0 by lia);have h2:=Int.emod_lt_of_pos x (show(0:Int)<n by lia);exact⟨(x%(n:Int)).toNat,by lia,by show V.int _=V.int _;congr 1;lia⟩
theorem zaQ:yah ["_law_purse_here","_law_many","_law_digit","_law_turn","_law_prime","_law_once","_law_mixed"] ["_law_purse_here","_law_many"] (zae zbY):=⟨rfl,rfl,rfl,by decide +kernel,rfl,by decide +kernel,by decide +kernel⟩
theorem yhm(B:Bl mg)(F:Fun K "_law_pick" "_law_pick" zbY f fd):FnOk P w K mg base CX0 1 f fd ["_law_purse_here","_law_many"] ycO:=by
 refine F.ok zaQ (λvs H Q E h=>?_) (λcdv A outer s H vs Q E hr h=>?_)
 ·obtain⟨a,g,n,rfl,_⟩:=h;rfl
 obtain⟨a,g,n,rfl,hP,hn,hn2,q⟩:=h;have nag:=hP.ne;refine⟨_,(zab (@yaL _ _ _ _ _ _ xAl (@PW.pt _ _ _ (@ygg _ _ _ _ _ _ _ (@zai _ _ _ _ _ _ _ _ (zgY hr.units0) (zan zao (pv 0) yac (λ_ _=>rfl)) (@yaA _ _ _ _ zac) (yak _)) (@yek _ _ _ _ (@zai _ _ _ _ _ _ _ _ ya9 (zan zao (zan zao (pv 0) yac (λ_ _=>rfl)) yac (λ_ _=>rfl)) yac (yak _))))) (yad (@ycf _ _ _ _ (@zfi _ _ _ _ _ _ _ _ _ _ _ _ PySem.F.plainAttrs_list PySem.F.slot_list_pop PySem.F.type_list_pop zgo (zan zao (pv 0) yac (λ_ _=>rfl)) (zaa yac zac ⋯) ⋯ ⋯ ⋯ ⋯ ⋯) ⋯))) (zab (@za3 _ _ _ _ _ _ _ _ (@zai _ _ _ _ _ _ _ _ (zgY hr.units0) (zan zao (pv 0) yac (λ_ _=>rfl)) (@yaA _ _ _ _ zac) (yak _)) (zab (@zag _ _ 2 _ _ _ _ zaQ.nd rfl (Or.inl rfl) (zaf yaz (zan zao (zan zao (pv 0) yac (λ_ _=>rfl)) yac (λ_ _=>rfl)) (pv 1)) ⋯ (by trivial)) (zab (@yaU _ _ _ _ _ _ (zaf yhu (zan zao (zan zao (pv 0) yac (λ_ _=>rfl)) yac (λ_ _=>rfl)) (pv 1)) (@zb5 _ _ _ _ _ _ _ (zan zao (pv 0) yac (λ_ _=>rfl)) yac yaW (by intro _;rfl)) ⋯ ⋯ ⋯) (yad (@yaj _ _ _ _ (pv 2))))) zaw) (zab (@yaU _ _ _ _ _ _ (zaf zau (zan zao (pv 0) yac (λ_ _=>rfl)) yac) (@zb5 _ _ _ _ _ _ _ (pv 0) yac yaW (by intro _;rfl)) ⋯ ⋯ ⋯) (zab (@zag _ _ 3 _ _ _ _ zaQ.nd rfl (Or.inl rfl) (zan zao (pv 0) yac (λ_ _=>rfl)) ⋯ (by trivial)) (zab (@zag _ _ 4 _ _ _ _ zaQ.nd rfl (Or.inl rfl) (zan zao (@yaA _ _ _ _ (zaa yac (zaa yac (zaa yac (zaa yac (zaa yac (zaa yac (zaa yac zac ⋯) ⋯) ⋯) ⋯) ⋯) ⋯) ⋯)) (zaf yaz (pv 3) yac) (λ_ _=>rfl)) ⋯ (by trivial)) (zab (@zag _ _ 5 _ _ _ _ zaQ.nd rfl (Or.inl rfl) (zaf yaz (zaf zau (zan zao (pv 0) yac (λ_ _=>rfl)) (zaf zaU yac (pv 3))) yac) ⋯ (by trivial)) (zab (@zag _ _ 6 _ _ _ _ zaQ.nd rfl (Or.inl rfl) (zaf zaU (zaf yaz (zaf yeJ (pv 5) yac) yac) (zaf zau (zaf zaU yac (pv 3)) yac)) ⋯ (by trivial)) (yad (@yaj _ _ _ _ (zaf yaz (zaf ycz (zaf yaz (zaf zau (pv 6) (zaf ycz (zan zao (pv 0) yac (λ_ _=>rfl)) yac)) (pv 4)) yac) (pv 1))))))))))),?_⟩;refine za9 (λσ H'=>σ=[some (.ref a),some (Vn n),none,none,none,none,none]/\Pu H' a g/\yar a g H H') ?_ ?_
 ·rintro σ H' ⟨rfl,⟨ns,x,t,ha,hg⟩,sm⟩;refine za9 (λσ H1=>ns=[]/\σ=[some (.ref a),some (Vn n),none,none,none,none,none]/\H1 a=some (.lst [.ref g,Vn x,Vn t])/\H1 g=some (.lst [])/\yar a g H H1) ?_ ?_
  ·rintro σ H1 ⟨rfl,rfl,ha,hg,sm⟩;refine⟨_,rfl,a,_,_,_,rfl,rfl,SqL.of ha,rfl,?_⟩;refine⟨_,_,rfl,rfl,?_⟩;refine⟨_,rfl,a,_,2,2,rfl,rfl,ha,rfl,?_⟩;have h1:(upd H1 a (.lst [.ref g,Vn x,.int ((t:Int)+1)])) a=some (.lst [.ref g,Vn x,Vn (t+1)]):=yaa;have h2:(upd H1 a (.lst [.ref g,Vn x,.int ((t:Int)+1)])) g=some (.lst []):=by rw[yag (Ne.symm nag)];exact hg
   have h3:yar a g H (upd H1 a (.lst [.ref g,Vn x,.int ((t:Int)+1)])):=λb o n1 n2 e=>by rw[yag n1];exact sm b o n1 n2 e
   change tSeq _ _ _ _ (upd H1 a (.lst [.ref g,Vn x,.int ((t:Int)+1)]));generalize upd H1 a (.lst [.ref g,Vn x,.int ((t:Int)+1)])=H2 at h1 h2 h3 ⊢;refine⟨_,rfl,a,_,_,_,rfl,rfl,SqL.of h1,rfl,?_⟩;refine⟨szl 7,λl hl=>?_⟩;have nla:a≠l:=yaf h1 hl;have nlg:g≠l:=yaf h2 hl;refine⟨_,rfl,_,_,rfl,rfl,by show(0:Int)<7;decide,?_⟩;obtain⟨k,hk,ek⟩:=modn (x:=((t+1:Nat):Int)) (n:=7) (by lia);have hprime:∃pr:Nat,61<pr/\atI [V.int 2147483629,.int 2147483587,.int 2147483579,.int 2147483563,.int 2147483549,.int 2147483543,.int 2147483497] (k:Int)=some (Vn pr):=by
    have:k=0\/k=1\/k=2\/k=3\/k=4\/k=5\/k=6:=by lia
    rcases this with rfl|rfl|rfl|rfl|rfl|rfl|rfl
    ·exact⟨2147483629,by decide,rfl⟩
    ·exact⟨2147483587,by decide,rfl⟩
    ·exact⟨2147483579,by decide,rfl⟩
    ·exact⟨2147483563,by decide,rfl⟩
    ·exact⟨2147483549,by decide,rfl⟩
    ·exact⟨2147483543,by decide,rfl⟩
    ·exact⟨2147483497,by decide,rfl⟩
   obtain⟨pr,hpr,epr⟩:=hprime;have ek':((t+1:Nat):Int)%(7:Int)=(k:Int):=by have:=V.int.inj ek;exact this
   refine⟨l,_,k,Vn pr,rfl,ek,SqL.of yaa,epr,?_⟩;have h1':(upd H2 l (.lst [V.int 2147483629,.int 2147483587,.int 2147483579,.int 2147483563,.int 2147483549,.int 2147483543,.int 2147483497])) a=some (.lst [.ref g,Vn x,Vn (t+1)]):=by rw[yag nla];exact h1
   have h2':(upd H2 l (.lst [V.int 2147483629,.int 2147483587,.int 2147483579,.int 2147483563,.int 2147483549,.int 2147483543,.int 2147483497])) g=some (.lst []):=by rw[yag nlg];exact h2
   have h3':yar a g H (upd H2 l (.lst [V.int 2147483629,.int 2147483587,.int 2147483579,.int 2147483563,.int 2147483549,.int 2147483543,.int 2147483497])):=h3.trans (Same.x (yab hl _));change tSeq _ _ _ _ (upd H2 l (.lst [V.int 2147483629,.int 2147483587,.int 2147483579,.int 2147483563,.int 2147483549,.int 2147483543,.int 2147483497]));generalize upd H2 l (.lst [V.int 2147483629,.int 2147483587,.int 2147483579,.int 2147483563,.int 2147483549,.int 2147483543,.int 2147483497])=H3 at h1' h2' h3' ⊢;refine⟨_,rfl,a,_,_,_,rfl,rfl,SqL.of h1',rfl,?_⟩;refine⟨_,rfl,_,_,rfl,rfl,.inl ⟨by decide,by decide⟩,?_⟩;refine⟨_,_,rfl,rfl,?_⟩;refine⟨_,_,rfl,rfl,by show(0:Int)<2147483647;decide,?_⟩;obtain⟨on,hon,eon⟩:=modn (x:=(x:Int)+65537*((t+1:Nat):Int)) (n:=2147483647) (by decide);dsimp only[yau];rw[show V.int (((x:Int)+65537*((t+1:Nat):Int))%2147483647)=Vn on from eon];refine⟨_,rfl,_,_,rfl,rfl,⟨by decide,by decide,by show(on:Int).natAbs<2^64;lia⟩,?_⟩;refine⟨_,_,rfl,rfl,by show(0:Int)<2147483647;decide,?_⟩;obtain⟨o5,ho5,eo5⟩:=modn (x:=(on:Int)^(5:Int).toNat) (n:=2147483647) (by decide);refine⟨_,rfl,_,_,rfl,rfl,.inl ⟨by decide,by decide⟩,?_⟩;refine⟨_,_,rfl,rfl,?_⟩;have b5:(on:Int)^(5:Int).toNat%2147483647=(o5:Int):=V.int.inj eo5;refine⟨_,_,rfl,rfl,.inl ⟨by rw[b5];lia,by rw[b5];lia⟩,?_⟩;refine⟨_,rfl,_,rfl,a,_,_,_,rfl,rfl,SqL.of h1',rfl,?_⟩;refine⟨_,_,rfl,rfl,⟨by show(0:Int)<2147483647;decide,by show(2147483647:Int)<2^64;decide⟩,?_⟩;refine⟨_,_,rfl,rfl,?_⟩;refine⟨_,rfl,_,_,rfl,rfl,by show(0:Int)<(pr:Int);lia,?_⟩;refine⟨_,_,rfl,rfl,⟨by show(0:Int)<61;decide,by show(61:Int)<2^64;decide⟩,?_⟩;refine⟨_,rfl,_,_,rfl,rfl,by show(0:Int)<(n:Int);lia,?_⟩;obtain⟨r,hr',er⟩:=modn (x:=((on:Int)^(5:Int).toNat%2147483647*(2*((t+1:Nat):Int)+1)+(x:Int)/2147483647)%(pr:Int)/61) hn;dsimp only;rw[er];exact q r H3 hr' ⟨[],x,t+1,h1',h2'⟩ h3'
  ·intro D' hrt _ _ hD;refine⟨_,rfl,a,_,_,_,rfl,rfl,SqL.of ha,rfl,szl 0,λl hl=>?_⟩;have nla:a≠l:=yaf ha hl;have nlg:g≠l:=yaf hg hl;have hg1:(upd H' l (.lst [])) g=some (.lst (ns.map Vn)):=by rw[yag nlg];exact hg
   have ha1:(upd H' l (.lst [])) a=some (.lst [.ref g,Vn x,Vn t]):=by rw[yag nla];exact ha
   have sm1:yar a g H (upd H' l (.lst [])):=sm.trans (Same.x (yab hl _));refine⟨g,l,_,rfl,rfl,SqL.of hg1,SqL.of yaa,_,rfl,?_⟩;refine ite2 (λc=>?_) (λc=>?_)
   ·cases ns with
    |nil=>exact absurd c (by simp)
    |cons d ns=>
     refine⟨_,rfl,a,_,_,_,rfl,rfl,SqL.of ha1,rfl,?_⟩;refine⟨g,_,_,_,rfl,rfl,SqL.of hg1,ydt _ _,?_⟩;refine⟨_,rfl,_,_,rfl,rfl,by show(0:Int)<(n:Int);lia,?_⟩;refine⟨_,rfl,a,_,_,_,rfl,rfl,SqL.of ha1,rfl,?_⟩;refine⟨g,_,_,_,rfl,rfl,SqL.of hg1,ydt _ _,?_⟩;refine⟨_,rfl,_,_,rfl,rfl,⟨by show(0:Int)<(n:Int);lia,by show(n:Int)<2^1000;lia⟩,?_⟩;refine⟨_,rfl,a,_,_,_,rfl,rfl,SqL.of ha1,rfl,?_⟩;refine⟨g,_,0,0,rfl,rfl,hg1,zeS (by simp),?_⟩;refine⟨_,rfl,?_⟩;rw[hrt];refine q (d%n) _ (xAR _ hn) ⟨(d/n)::ns,x,t,by rw[yag nag];exact ha1,yaa⟩ λb o n1 n2 e=>by rw[yag n2];exact sm1 b o n1 n2 e
   ·cases ns with
    |nil=>exact hD _ _ ⟨rfl,rfl,ha1,hg1,sm1⟩
    |cons d ns=>exact absurd (by simp) c
 ·intro D' _ _ _ hD;refine zaL (λσ H'=>σ=[some (.ref a),some (Vn n),none,none,none,none,none]/\Pu H' a g/\yar a g H H') (λ_ H'=>zdk H' g) ⟨rfl,hP,yar.refl⟩ ?_;rintro σ H' ⟨rfl,⟨ns,x,t,ha,hg⟩,sm⟩;refine⟨_,rfl,a,_,_,_,rfl,rfl,SqL.of ha,rfl,szl 0,λl hl=>?_⟩;have nla:a≠l:=yaf ha hl;have nlg:g≠l:=yaf hg hl;have hg1:(upd H' l (.lst [])) g=some (.lst (ns.map Vn)):=by rw[yag nlg];exact hg
  have ha1:(upd H' l (.lst [])) a=some (.lst [.ref g,Vn x,Vn t]):=by rw[yag nla];exact ha
  have sm1:yar a g H (upd H' l (.lst [])):=sm.trans (Same.x (yab hl _));refine⟨g,l,_,rfl,rfl,SqL.of hg1,SqL.of yaa,_,rfl,?_⟩;refine ite2 (λc=>?_) (λc=>?_)
  ·cases ns with
   |nil=>exact absurd c (by simp)
   |cons d ns=>
    refine⟨_,rfl,a,_,_,_,rfl,rfl,SqL.of ha1,rfl,?_⟩;refine⟨g,_,_,_,rfl,rfl,SqL.of hg1,ydt _ _,?_⟩;refine⟨rfl,_,rfl,?_⟩;refine ite2 (λc=>?_) (λc=>?_)
    ·refine⟨λσ' H''=>σ'=[some (.ref a),some (Vn n),none,none,none,none,none]/\H''=upd (upd H' l (.lst [])) g (.lst (ns.map Vn)),?_,?_⟩
     ·rintro σ' H'' ⟨rfl,rfl⟩;refine⟨_,?_,rfl,rfl,⟨ns,x,t,by rw[yag nag];exact ha1,yaa⟩,λb o n1 n2 e=>by rw[yag n2];exact sm1 b o n1 n2 e⟩;rw[zbN hg,zbN (xs:=ns.map Vn) yaa];simp
     ·refine⟨_,rfl,a,_,_,_,rfl,rfl,SqL.of ha1,rfl,.inl ⟨rfl,_,SqL.of hg1⟩,?_⟩;exact⟨g,_,0,0,Vn d,rfl,rfl,hg1,by decide,by decide,(yei (zeS (by simp))).1,rfl,rfl,rfl⟩
    ·exact hD _ _ ⟨rfl,⟨d::ns,x,t,ha1,hg1⟩,sm1⟩
  ·refine ite2 (λc2=>absurd c2 (by decide)) (λ_=>?_);exact hD _ _ ⟨rfl,⟨ns,x,t,ha1,hg1⟩,sm1⟩
end
end My
end
section
-- text: P3
namespace My
open PySem L2 Dg
local macro_rules | `(tactic| walk_at "rd") => `(tactic| repeat (first | refine ⟨_, rfl, ?_⟩ | refine ⟨_, _, rfl, rfl, ?_⟩))
noncomputable def sumN:Nat->(Nat->Nat)->Nat
 |0,_=>0
 |n+1,g=>sumN n g+g n
theorem yc9:∀(n:Nat) (g:Nat->Nat),sumN (n+1) g=g 0+sumN n λj=>g (j+1)
 |0,g=>by simp[sumN]
 |n+1,g=>by rw[sumN,yc9 n g,sumN];lia
theorem yfb{n:Nat}{g h:Nat->Nat}(e:∀j,j<n->g j=h j):sumN n g=sumN n h:=by
 induction n with
 |zero=>rfl
 |succ n ih=>rw[sumN,sumN,ih λj hj=>e j (by lia),e n (by lia)]
noncomputable def shN(j:Nat)(y:Nat->Nat)(i:Nat):Nat:=if j<=i then y (i-j) else 0
theorem zdV:∀(k:Nat) (f y:Nat->Nat) (i:Nat),ydl k f y i=sumN k λj=>f j*shN j y i
 |0,_,_,_=>rfl
 |k+1,f,y,i=>by
  rw[yc9];show f 0*y i+yaJ (ydl k (λj=>f (j+1)) y) i=f 0*shN 0 y i+_;congr 1;unfold yaJ;by_cases h:i=0
  ·rw[if_pos h];subst h;have:∀n,sumN n (λj=>f (j+1)*shN (j+1) y 0)=0:=λn=>by
    induction n with
    |zero=>rfl
    |succ n ih=>rw[sumN,ih];unfold shN;rw[if_neg (by lia)];simp
   exact(this k).symm
  ·rw[if_neg h,zdV k];refine yfb λj _=>?_
   congr 1;unfold shN;by_cases h2:j+1<=i
   ·rw[if_pos h2,if_pos (by lia)];congr 1;lia
   ·rw[if_neg h2,if_neg (by lia)]
noncomputable def rowL(p n:Nat)(c:Nat->Nat):List V:=(List.range n).map λi=>Vn (c i%p)
theorem ybO(p n:Nat)(c:Nat->Nat):(rowL p n c).length=n:=by simp[rowL]
theorem zdJ{p n:Nat}(c:Nat->Nat){i:Nat}(h:i<n):(rowL p n c)[i]?=some (Vn (c i%p)):=by
 unfold rowL;rw[xA8,xAL h];rfl
theorem yep{p n:Nat}(c:Nat->Nat){i:Nat}{j:Int}(h:i<n)(e:j=(i:Int)):atI (rowL p n c) j=some (Vn (c i%p)):=by
 subst e;exact zaN (zdJ c h)
theorem zbp{p n:Nat}{c c':Nat->Nat}(h:∀i,i<n->c i%p=c' i%p):rowL p n c=rowL p n c':=by
 unfold rowL;refine xAy λi hi=>?_
 rw[h i (xAw.mp hi)]
theorem zgQ{p n:Nat}(c:Nat->Nat){s v:Nat}(h:s<n):(rowL p n c).set s (Vn (v%p))=rowL p n λi=>if i=s then v else c i:=by
 refine List.ext_getElem? λi=>?_
 by_cases hi:i<n
 ·rw[zdJ _ hi,List.getElem?_set];by_cases e:s=i
  ·subst e;rw[if_pos rfl,if_pos (by rw[ybO];exact hi),if_pos rfl]
  ·rw[if_neg e,zdJ _ hi,if_neg (Ne.symm e)]
 ·rw[List.getElem?_eq_none (by rw[List.length_set,ybO];lia),List.getElem?_eq_none (by rw[ybO];lia)]
theorem yfG{p n:Nat}{c:Nat->Nat}{s v:Nat}(h:s<n){c':Nat->Nat}(hc:∀i,i<n->c' i%p=(if i=s then c s%p+v else c i)%p):(rowL p n c).set s (Vn ((c s%p+v)%p))=rowL p n c' :=
 (zgQ c h).trans (zbp λi hi=>(hc i hi).symm)
theorem ygh{n s:Nat}{j:Int}(h:s<n)(e:j=(s:Int)):ixN n j=some s:=by
 subst e;unfold ixN;rw[if_pos (by lia),if_pos (by lia)];simp
theorem ygF(p k:Nat)(hp:0<p):(List.replicate k [V.int 0]).flatten=rowL p k λ_=>0:=by
 induction k with
 |zero=>rfl
 |succ k ih=>
  rw[List.replicate_succ',List.flatten_append,ih];unfold rowL;rw[xBd,xAe];simp
section
variable {P:Program} {w:World} {K:PySem.W.Frag} {mg:Str->Option Value} {base:Heap} {f:Addr} {fd:FuncData}
noncomputable def yb9(K:PySem.W.Frag):Sp:=λvs H Q _=>∃(a:Addr) (p m t x y:Nat),vs=[.ref a,.int x,.int y]/\Fld K H a p m t/\2<=p/\1<=m/\p^m<=64/\t<p^m/\x<p^m/\y<p^m/\
 ∀(r:Nat) H',Same H H'->r<p^m->(∀i,i<m->dg p i r=tn m (λi=>dg p i t) m (λi=>dg p i x) (λi=>dg p i y) i%p)->Q (.int r) H'
theorem zdG{p m x i:Nat}(h:i<m):(digL p m x)[i]?=some (Vn (dg p i x)):=by
 unfold digL;rw[xA8,xAL h];rfl
theorem yfM{l:Addr}{H H':Hp}{o:HO}(h:yar l l H H'):yar l l H (upd H' l o):=λb u n1 n2 e=>by rw[yag n1];exact h b u n1 n2 e
theorem yfA{l p:Addr}{H H':Hp}{o:HO}(h:yar l l H H')(hp:H' p=none):yar l l H (upd H' p o):=h.trans (Same.x (yab hp o))
theorem zdB{l:Addr}{H H':Hp}(h:yar l l H H')(hl:H l=none):Same H H':=λb o e=>h b o (yaf e hl) (yaf e hl) e
theorem zak:yah ["_law_field_here","_law_one","_law_other","_law_p","_law_m","_law_top","_law_row","_law_j","_law_digit","_law_k","_law_by","_law_place","_law_at"] ["_law_field_here","_law_one","_law_other"] (zae ybl):=⟨rfl,rfl,rfl,by decide +kernel,rfl,by decide +kernel,by decide +kernel⟩
theorem yfc(B:Bl mg)(xBw:Has P w K mg base 1 "_law_digits" ["_law_field_here","_law_thing"] (zed K))(xBC:Has P w K mg base 1 "_law_number" ["_law_field_here","_law_digits_here"] (zdO K))(F:Fun K "_law_product" "_law_product" ybl f fd):FnOk P w K mg base CX0 2 f fd ["_law_field_here","_law_one","_law_other"] (yb9 K):=by
 refine F.ok zak (λvs H Q E h=>?_) (λcdv A outer s H vs Q E hr h=>?_)
 ·obtain⟨a,p,m,t,x,y,rfl,_⟩:=h;rfl
 obtain⟨a,p,m,t,x,y,rfl,hF,hp,hm,hpm,ht,hx,hy,q⟩:=h;have hp2:=p_le hp hm hpm;have hm6:=m_le hp hpm;refine⟨_,(@zab _ _ _ _ _ (@yaU _ _ _ _ _ _ (pv 0) (@za2 _ _ _ _ _ _ rfl (@zah _ _ _ _ _ (@yae _ _ 3 _ zak.nd rfl (Or.inl rfl) (by trivial)) (@zah _ _ _ _ _ (@yae _ _ 4 _ zak.nd rfl (Or.inl rfl) (by trivial)) (@zah _ _ _ _ _ (@yae _ _ 5 _ zak.nd rfl (Or.inl rfl) (by trivial)) zaE ⋯) ⋯) ⋯) ⋯ ⋯) ⋯ ⋯ ⋯) (@zab _ _ _ _ _ (@zag _ _ 6 _ _ _ _ zak.nd rfl (Or.inl rfl) (@zaf _ _ _ _ _ _ _ _ ycn (@yaA _ _ _ _ (@zaa _ _ _ _ _ yac zac ⋯)) (@zaf _ _ _ _ _ _ _ _ yaG (@zaf _ _ _ _ _ _ _ _ zaU yac (pv 4)) yac)) ⋯ (by trivial)) (@zab _ _ _ _ _ (@yaC _ _ _ _ _ _ _ _ xAl rfl (@ybC _ _ _ _ _ _ _ _ rfl (B "enumerate" (by decide)) (@zaa _ _ _ _ _ (@zad _ _ _ _ _ _ _ _ _ _ _ xBw hr (by decide) rfl (@zaa _ _ _ _ _ (pv 0) (@zaa _ _ _ _ _ (pv 1) zac ⋯) ⋯) (by decide) ⋯ ⋯) zac ⋯) ⋯) (@za2 _ _ _ _ _ _ rfl (@zah _ _ _ _ _ (@yae _ _ 7 _ zak.nd rfl (Or.inl rfl) (by trivial)) (@zah _ _ _ _ _ (@yae _ _ 8 _ zak.nd rfl (Or.inl rfl) (by trivial)) zaE ⋯) ⋯) ⋯ ⋯) (@yad _ _ _ (@yaC _ _ _ _ _ _ _ _ xAl rfl (@ybC _ _ _ _ _ _ _ _ rfl (B "enumerate" (by decide)) (@zaa _ _ _ _ _ (@zad _ _ _ _ _ _ _ _ _ _ _ xBw hr (by decide) rfl (@zaa _ _ _ _ _ (pv 0) (@zaa _ _ _ _ _ (pv 2) zac ⋯) ⋯) (by decide) ⋯ ⋯) zac ⋯) ⋯) (@za2 _ _ _ _ _ _ rfl (@zah _ _ _ _ _ (@yae _ _ 9 _ zak.nd rfl (Or.inl rfl) (by trivial)) (@zah _ _ _ _ _ (@yae _ _ 10 _ zak.nd rfl (Or.inl rfl) (by trivial)) zaE ⋯) ⋯) ⋯ ⋯) (@yad _ _ _ (@yaU _ _ _ _ _ _ (@zaf _ _ _ _ _ _ _ _ yaz (@zaf _ _ _ _ _ _ _ _ zau (@zan _ _ _ _ _ _ _ zao (pv 6) (@zaf _ _ _ _ _ _ _ _ zau (pv 7) (pv 9)) (λ_ _=>rfl)) (@zaf _ _ _ _ _ _ _ _ zaU (pv 8) (pv 10))) (pv 3)) (@zb5 _ _ _ _ _ _ _ (pv 6) (@zaf _ _ _ _ _ _ _ _ zau (pv 7) (pv 9)) yaW (by intro _;rfl)) ⋯ ⋯ ⋯)) (by intro _;rfl))) (by intro _;rfl)) (@zab _ _ _ _ _ (@yaC _ _ _ _ _ _ _ _ xAl rfl (@yhH _ _ _ _ _ _ _ _ rfl (B "range" (by decide)) (@zaa _ _ _ _ _ (@zaf _ _ _ _ _ _ _ _ yaG (@zaf _ _ _ _ _ _ _ _ zaU yac (pv 4)) yac) (@zaa _ _ _ _ _ (@zaf _ _ _ _ _ _ _ _ yaG (pv 4) yac) (@zaa _ _ _ _ _ (@zfJ _ _ _ _ _ _ zdW yac) zac ⋯) ⋯) ⋯) ⋯ ⋯) (@yae _ _ 11 _ zak.nd rfl (Or.inl rfl) (by trivial)) (@yad _ _ _ (@yaC _ _ _ _ _ _ _ _ xAl rfl (@ybC _ _ _ _ _ _ _ _ rfl (B "enumerate" (by decide)) (@zaa _ _ _ _ _ (@zad _ _ _ _ _ _ _ _ _ _ _ xBw hr (by decide) rfl (@zaa _ _ _ _ _ (pv 0) (@zaa _ _ _ _ _ (pv 5) zac ⋯) ⋯) (by decide) ⋯ ⋯) zac ⋯) ⋯) (@za2 _ _ _ _ _ _ rfl (@zah _ _ _ _ _ (@yae _ _ 9 _ zak.nd rfl (Or.inl rfl) (by trivial)) (@zah _ _ _ _ _ (@yae _ _ 8 _ zak.nd rfl (Or.inl rfl) (by trivial)) zaE ⋯) ⋯) ⋯ ⋯) (@zab _ _ _ _ _ (@zag _ _ 12 _ _ _ _ zak.nd rfl (Or.inl rfl) (@zaf _ _ _ _ _ _ _ _ zau (@zaf _ _ _ _ _ _ _ _ yaG (pv 11) (pv 4)) (pv 9)) ⋯ (by trivial)) (@yad _ _ _ (@yaU _ _ _ _ _ _ (@zaf _ _ _ _ _ _ _ _ yaz (@zaf _ _ _ _ _ _ _ _ zau (@zan _ _ _ _ _ _ _ zao (pv 6) (pv 12) (λ_ _=>rfl)) (@zaf _ _ _ _ _ _ _ _ zaU (@zan _ _ _ _ _ _ _ zao (pv 6) (pv 11) (λ_ _=>rfl)) (pv 8))) (pv 3)) (@zb5 _ _ _ _ _ _ _ (pv 6) (pv 12) yaW (by intro _;rfl)) ⋯ ⋯ ⋯))) (by intro _;rfl))) (by intro _;rfl)) (@yad _ _ _ (@yaj _ _ _ _ (@zad _ _ _ _ _ _ _ _ _ _ _ xBC hr (by decide) rfl (@zaa _ _ _ _ _ (pv 0) (@zaa _ _ _ _ _ (@zcs _ _ _ _ _ _ _ _ _ _ yef (pv 6) zdr (@zdn _ _ _ (pv 4))) zac ⋯) ⋯) (by decide) ⋯ ⋯))))))),?_⟩
 refine⟨_,rfl,a,_,rfl,hF,rfl,_,_,rfl,_,_,rfl,_,_,rfl,rfl,?_⟩;refine⟨szl 1,λl0 hl0=>?_⟩;refine⟨_,rfl,_,_,rfl,rfl,.inl ⟨by decide,by decide⟩,?_⟩;refine⟨_,_,rfl,rfl,?_⟩;have e21:(2*(m:Int)-1).toNat=2*m-1:=by lia
 refine⟨l0,_,_,rfl,rfl,yaa,by show -(2^63)<=2*(m:Int)-1;lia,by show 2*(m:Int)-1<2^63;lia,?_,λl hl=>?_⟩
 ·show 1*(2*(m:Int)-1).toNat<=sizeLine;rw[e21];exact szl _
 dsimp only;rw[e21,ygF p _ (by lia)];have hlH:H l=none:=(yab hl0 (.lst [.int 0])).free hl;refine za9 (λσ H'=>∃s7 s8 s9 s10 s11 s12,σ=[some (.ref a),some (Vn x),some (Vn y),some (Vn p),some (Vn m),some (Vn t),some (.ref l),s7,s8,s9,s10,s11,s12]/\yar l l H H'/\H' l=some (.lst (rowL p (2*m-1) (ydl m (λi=>dg p i x) λi=>dg p i y)))) ?_ ?_
 ·rintro σ H' ⟨s7,s8,s9,s10,s11,s12,rfl,sx,hrow⟩;refine za9 (λσ H'=>∃s7 s8 s9 s10 s11 s12,σ=[some (.ref a),some (Vn x),some (Vn y),some (Vn p),some (Vn m),some (Vn t),some (.ref l),s7,s8,s9,s10,s11,s12]/\yar l l H H'/\∃c:Nat->Nat,H' l=some (.lst (rowL p (2*m-1) c))/\∀i,i<m->c i=tn m (λi=>dg p i t) m (λi=>dg p i x) (λi=>dg p i y) i) ?_ ?_
  ·rintro σ H' ⟨s7,s8,s9,s10,s11,s12,rfl,sx,c,hrow,hc⟩;refine⟨_,rfl,_,rfl,_,rfl,_,rfl,l,_,rfl,SqL.of hrow,λl2 hl2=>?_⟩;have sm2:Same H (upd H' l2 (.lst (cutV (rowL p (2*m-1) c) none (some (m:Int))))):=(zdB sx hlH).trans (yab hl2 _);refine⟨a,l2,p,m,t,(List.range m).map λi=>c i%p,rfl,Same.tup sm2 hF,hp,hp2,?_,λH3 s3=>?_⟩
   ·refine SqL.of ?_;rw[yaa];congr 2;unfold cutV;rw[HT.sIx_none,show HT.sIx (rowL p (2*m-1) c).length (rowL p (2*m-1) c).length (some (m:Int))=min m (rowL p (2*m-1) c).length from HT.sIx_nat _ _ m,ybO,List.drop_zero,show min m (2*m-1)-0=m by lia];unfold rowL;rw[<-List.map_take,List.take_range,List.map_map,show min m (2*m-1)=m by lia];rfl
   ·have hds:∀d∈(List.range m).map (λi=>c i%p),d<p:=λd hd=>by
     obtain⟨i,_,rfl⟩:=xAg.mp hd;exact xAR _ (by lia)
    have hg:∀i,((List.range m).map λi=>c i%p).getD i 0=if i<m then c i%p else 0:=λi=>by
     by_cases hi:i<m
     ·rw[if_pos hi,List.getD,xA8,xAL hi];rfl
     ·rw[if_neg hi,List.getD,List.getElem?_eq_none (by simpa using hi)];rfl
    refine q _ _ (sm2.trans s3) (zce hp λi hi=>?_) λi hi=>?_
    ·rw[yfE hp _ hds,hg,if_neg (by lia)]
    ·rw[yfE hp _ hds,hg,if_pos hi,hc i hi]
  ·intro D' _ _ _ hD;refine⟨_,rfl,_,_,rfl,rfl,.inl ⟨by decide,by decide⟩,?_⟩;refine⟨_,_,rfl,rfl,?_⟩;refine⟨_,rfl,_,_,rfl,rfl,?_⟩;refine⟨_,rfl,?_⟩;refine⟨2*(m:Int)-2,(m:Int)-1,rfl,⟨by lia,by lia,by lia,by lia⟩,?_⟩;refine yaM zea (λi σ H'=>∃s7 s8 s9 s10 s11 s12,σ=[some (.ref a),some (Vn x),some (Vn y),some (Vn p),some (Vn m),some (Vn t),some (.ref l),s7,s8,s9,s10,s11,s12]/\yar l l H H'/\∃c:Nat->Nat,H' l=some (.lst (rowL p (2*m-1) c))/\
    redF m (λi=>dg p i t) (m-1-i) c=redF m (λi=>dg p i t) (m-1) (ydl m (λi=>dg p i x) λi=>dg p i y)) ⟨s7,s8,s9,s10,s11,s12,rfl,sx,_,hrow,rfl⟩ (λ_ _ _ _ _=>trivial) ?_ ?_
   ·rintro i v σ H' H'' hi ⟨s7,s8,s9,s10,s11,s12,rfl,sx,c,hrow,hred⟩ ⟨rfl,rfl⟩;obtain⟨j,hj⟩:∃j,m-1-i=j+1:=⟨m-1-i-1,by lia⟩
    have eq:V.int (2*(m:Int)-2-(i:Int))=Vn (m+j):=by show V.int _=V.int _;congr 1;lia
    have hq:m+j<2*m-1:=by lia
    dsimp only[yau];rw[eq];refine⟨_,rfl,_,rfl,a,p,m,t,t,rfl,Same.tup (zdB sx hlH) hF,hp,hp2,by lia,λb2 H2 hb2' s2 e2=>?_⟩;have nb2:b2≠l:=λe=>by rw[e,hrow]at hb2';cases hb2'
    refine⟨false,b2,rfl,⟨_,SqL.of e2⟩,?_⟩;refine yaM (ya1 (K:=K) (b:=false) (l:=b2) (xs:=digL p m t)) (λk σ H'=>∃s7 s8 s9 s10 s12,σ=[some (.ref a),some (Vn x),some (Vn y),some (Vn p),some (Vn m),some (Vn t),some (.ref l),s7,s8,s9,s10,some (Vn (m+j)),s12]/\yar l l H H'/\H' b2=some (.lst (digL p m t))/\
     H' l=some (.lst (rowL p (2*m-1) λi=>c i+if j<=i/\i<j+k then c (m+j)*dg p (i-j) t else 0))) ⟨s7,s8,s9,s10,s12,rfl,sx.trans (Same.x s2),e2,?_⟩ ?_ ?_ ?_
    ·rw[s2 _ _ hrow];congr 2;refine zbp λi _=>?_
     rw[if_neg (by lia)];rfl
    ·rintro i σ H' _ ⟨s7,s8,s9,s10,s12,rfl,_,h,_⟩;exact SqL.of h
    ·rintro k v σ H' H'' hk ⟨s7,s8,s9,s10,s12,rfl,sx,hc,hrow⟩ ⟨T,u,rfl,eu,hT,rfl⟩;rw[zbw]at hk;rw[zdG hk]at eu;cases eu;refine⟨T,_,rfl,SqT.of yaa,rfl,_,_,rfl,_,_,rfl,rfl,?_⟩;have sx3:yar l l H (upd H' T (.tup [.int k,Vn (dg p k t)])):=yfA sx hT;have hc3:(upd H' T (.tup [.int k,Vn (dg p k t)])) b2=some (.lst (digL p m t)):=by rw[yag (yaf hc hT)];exact hc
     have hr3:=(yag (o:=.tup [.int k,Vn (dg p k t)]) (yaf hrow hT)).trans hrow;generalize upd H' T (.tup [.int k,Vn (dg p k t)])=G at sx3 hc3 hr3 ⊢;have hjk:j+k<2*m-1:=by lia
     have hmp:∀z,z%p<p:=λz=>xAR _ (by lia)
     refine⟨_,rfl,_,rfl,_,_,rfl,rfl,?_⟩;refine⟨_,rfl,_,_,rfl,rfl,?_⟩;have eat:V.int (((m+j:Nat):Int)-(m:Int)+((k:Nat):Int))=Vn (j+k):=by show V.int _=V.int _;congr 1;lia
     dsimp only[yau];rw[eat];refine⟨_,rfl,_,rfl,l,_,_,_,rfl,rfl,SqL.of hr3,yep _ hjk rfl,?_⟩;refine⟨_,rfl,_,rfl,l,_,_,_,rfl,rfl,SqL.of hr3,yep _ hq rfl,?_⟩;have hmq:=hmp (c (m+j)+if j<=m+j/\m+j<j+k then c (m+j)*dg p (m+j-j) t else 0);refine⟨_,rfl,_,_,rfl,rfl,.inl ⟨by lia,by lia⟩,?_⟩;refine⟨_,_,rfl,rfl,?_⟩;refine⟨_,rfl,_,_,rfl,rfl,by show(0:Int)<(p:Int);lia,?_⟩;refine⟨_,rfl,_,rfl,?_⟩;refine⟨l,_,_,j+k,rfl,rfl,hr3,ygh (by rw[ybO];exact hjk) rfl,?_⟩;refine⟨s7,_,_,s10,_,rfl,yfM sx3,by rw[yag nb2];exact hc3,?_⟩;rw[yaa];congr 2;refine yfG (v:=(c (m+j)+if j<=m+j/\m+j<j+k then c (m+j)*dg p (m+j-j) t else 0)%p*dg p k t) hjk λi hi=>?_
     by_cases e:i=j+k
     ·subst e;rw[if_pos rfl,if_pos (by lia),if_neg (by lia),if_neg (by lia),Nat.add_zero,Nat.add_zero,show j+k-j=k by lia,Nat.mod_add_mod];exact ybr rfl (ydG (Nat.mod_mod _ _).symm rfl)
     ·rw[if_neg e];congr 2;by_cases h2:j<=i/\i<j+k
      ·rw[if_pos h2,if_pos (by lia)]
      ·rw[if_neg h2,if_neg (by lia)]
    ·rintro σ H' ⟨s7,s8,s9,s10,s12,rfl,sx,hc,hrow⟩;refine⟨s7,s8,s9,s10,_,s12,rfl,sx,_,hrow,?_⟩;rw[<-hred,hj,show m-1-(i+1)=j by lia];show _=redF m (λi=>dg p i t) j (zbu m (λi=>dg p i t) (m+j) c);congr 1
     funext z
     unfold zbu;rw[zbw,show m+j-m=j by lia];congr 1;by_cases h2:j<=z/\z<j+m
     ·rw[if_pos h2,if_pos (by lia)]
     ·rw[if_neg h2,if_neg (by lia)]
   ·rintro σ H' ⟨s7,s8,s9,s10,s11,s12,rfl,sx,c,hrow,hred⟩;refine hD _ _ ⟨s7,s8,s9,s10,s11,s12,rfl,sx,c,hrow,λi hi=>?_⟩;rw[show m-1-(2*(m:Int)-2-((m:Int)-1)).toNat=0 by lia]at hred;have e:=congrFun hred i;have e2:=zeJ (t:=λi=>dg p i t) hm (m-1) (λi=>dg p i x) (λi=>dg p i y) (λz hz=>zar hp hy hz) i hi;rw[show m-1+1=m by lia]at e2;exact e.trans e2
 ·intro D' _ _ _ hD;refine⟨_,rfl,_,rfl,a,p,m,t,x,rfl,Same.tup ((yab hl0 _).trans (yab hl _)) hF,hp,hp2,by lia,λb1 H1 hb1 s1 e1=>?_⟩;have hl1:H1 l=some (.lst (rowL p (2*m-1) λ_=>0)):=s1 _ _ yaa;have nb1:b1≠l:=λe=>by rw[e,yaa]at hb1;cases hb1
  have sx1:yar l l H H1:=Same.x (((yab hl0 _).trans (yab hl _)).trans s1);refine⟨false,b1,rfl,⟨_,SqL.of e1⟩,?_⟩;refine yaM (ya1 (K:=K) (b:=false) (l:=b1) (xs:=digL p m x)) (λj σ H'=>∃s7 s8 s9 s10 s11 s12,σ=[some (.ref a),some (Vn x),some (Vn y),some (Vn p),some (Vn m),some (Vn t),some (.ref l),s7,s8,s9,s10,s11,s12]/\yar l l H H'/\H' b1=some (.lst (digL p m x))/\
   H' l=some (.lst (rowL p (2*m-1) λi=>sumN j λj'=>dg p j' x*shN j' (λi=>dg p i y) i))) ⟨none,none,none,none,none,none,rfl,sx1,e1,hl1⟩ ?_ ?_ ?_
  ·rintro i σ H' _ ⟨s7,s8,s9,s10,s11,s12,rfl,_,h,_⟩;exact SqL.of h
  ·rintro j v σ H' H'' hj ⟨s7,s8,s9,s10,s11,s12,rfl,sx,hb,hrow⟩ ⟨T,u,rfl,eu,hT,rfl⟩;rw[zbw]at hj;rw[zdG hj]at eu;cases eu;refine⟨T,_,rfl,SqT.of yaa,rfl,_,_,rfl,_,_,rfl,rfl,?_⟩;have sx2:yar l l H (upd H' T (.tup [.int j,Vn (dg p j x)])):=yfA sx hT;have hb2:(upd H' T (.tup [.int j,Vn (dg p j x)])) b1=some (.lst (digL p m x)):=by rw[yag (yaf hb hT)];exact hb
   have hr2:(upd H' T (.tup [.int j,Vn (dg p j x)])) l=some (.lst (rowL p (2*m-1) λi=>sumN j λj'=>dg p j' x*shN j' (λi=>dg p i y) i)):=by rw[yag (yaf hrow hT)];exact hrow
   generalize upd H' T (.tup [.int j,Vn (dg p j x)])=G at sx2 hb2 hr2 ⊢;refine⟨_,rfl,_,rfl,a,p,m,t,y,rfl,Same.tup (zdB sx2 hlH) hF,hp,hp2,by lia,λb2 H2 hb2' s2 e2=>?_⟩;have nb2:b2≠l:=λe=>by rw[e,hr2]at hb2';cases hb2'
   refine⟨false,b2,rfl,⟨_,SqL.of e2⟩,?_⟩;refine yaM (ya1 (K:=K) (b:=false) (l:=b2) (xs:=digL p m y)) (λk σ H'=>∃s9 s10 s11 s12,σ=[some (.ref a),some (Vn x),some (Vn y),some (Vn p),some (Vn m),some (Vn t),some (.ref l),some (Vn j),some (Vn (dg p j x)),s9,s10,s11,s12]/\yar l l H H'/\H' b1=some (.lst (digL p m x))/\H' b2=some (.lst (digL p m y))/\
    H' l=some (.lst (rowL p (2*m-1) λi=>sumN j (λj'=>dg p j' x*shN j' (λi=>dg p i y) i)+if j<=i/\i<j+k then dg p j x*dg p (i-j) y else 0))) ⟨s9,s10,s11,s12,rfl,sx2.trans (Same.x s2),s2 _ _ hb2,e2,?_⟩ ?_ ?_ ?_
   ·rw[s2 _ _ hr2];congr 2;refine zbp λi _=>?_
    rw[if_neg (by lia)];rfl
   ·rintro i σ H' _ ⟨s9,s10,s11,s12,rfl,_,_,h,_⟩;exact SqL.of h
   ·rintro k v σ H' H'' hk ⟨s9,s10,s11,s12,rfl,sx,hb,hc,hrow⟩ ⟨T,u,rfl,eu,hT,rfl⟩;rw[zbw]at hk;rw[zdG hk]at eu;cases eu;refine⟨T,_,rfl,SqT.of yaa,rfl,_,_,rfl,_,_,rfl,rfl,?_⟩;have sx3:yar l l H (upd H' T (.tup [.int k,Vn (dg p k y)])):=yfA sx hT;have hb3:(upd H' T (.tup [.int k,Vn (dg p k y)])) b1=some (.lst (digL p m x)):=by rw[yag (yaf hb hT)];exact hb
    have hc3:(upd H' T (.tup [.int k,Vn (dg p k y)])) b2=some (.lst (digL p m y)):=by rw[yag (yaf hc hT)];exact hc
    have hr3:=(yag (o:=.tup [.int k,Vn (dg p k y)]) (yaf hrow hT)).trans hrow;generalize upd H' T (.tup [.int k,Vn (dg p k y)])=G at sx3 hb3 hc3 hr3 ⊢;have d1:=yhQ hp j x;have hjk:j+k<2*m-1:=by lia
    refine⟨_,rfl,_,rfl,_,rfl,_,_,rfl,rfl,?_⟩;refine⟨l,_,_,_,rfl,rfl,SqL.of hr3,yep _ hjk rfl,?_⟩;refine⟨_,rfl,_,rfl,_,_,rfl,rfl,.inl ⟨by show -(2^64:Int)<((dg p j x:Nat):Int);lia,by show((dg p j x:Nat):Int)<2^64;lia⟩,?_⟩;refine⟨_,_,rfl,rfl,?_⟩;refine⟨_,rfl,_,_,rfl,rfl,by show(0:Int)<(p:Int);lia,?_⟩;refine⟨_,rfl,_,rfl,_,rfl,_,_,rfl,rfl,?_⟩;refine⟨l,_,_,j+k,rfl,rfl,hr3,ygh (by rw[ybO];exact hjk) rfl,?_⟩;refine⟨_,_,s11,s12,rfl,yfM sx3,by rw[yag nb1];exact hb3,by rw[yag nb2];exact hc3,?_⟩;rw[yaa];congr 2;refine yfG (v:=dg p j x*dg p k y) hjk λi hi=>?_
    by_cases e:i=j+k
    ·subst e;rw[if_pos rfl,if_pos (by lia),if_neg (by lia),Nat.add_zero,show j+k-j=k by lia,Nat.mod_add_mod]
    ·rw[if_neg e];congr 2;by_cases h2:j<=i/\i<j+k
     ·rw[if_pos h2,if_pos (by lia)]
     ·rw[if_neg h2,if_neg (by lia)]
   ·rintro σ H' ⟨s9,s10,s11,s12,rfl,sx,hb,hc,hrow⟩;refine⟨_,_,s9,s10,s11,s12,rfl,sx,hb,?_⟩;rw[hrow,zbw];congr 2;refine zbp λi _=>?_
    rw[sumN];congr 2;unfold shN;by_cases h1:j<=i
    ·rw[if_pos h1];by_cases h2:i<j+m
     ·rw[if_pos ⟨h1,h2⟩]
     ·rw[if_neg (by lia)];show 0=dg p j x*dg p (i-j) y;rw[zar hp hy (by lia),Nat.mul_zero]
    ·rw[if_neg h1,if_neg (by lia),Nat.mul_zero]
  ·rintro σ H' ⟨s7,s8,s9,s10,s11,s12,rfl,sx,hb,hrow⟩;refine hD _ _ ⟨s7,s8,s9,s10,s11,s12,rfl,sx,?_⟩;rw[hrow,zbw];congr 2;exact zbp λi _=>by rw[zdV]
end
end My
end
section
-- text: P4
namespace My
open PySem L2 Dg
section
variable {P:Program} {w:World} {K:PySem.W.Frag} {mg:Str->Option Value} {base:Heap} {f:Addr} {fd:FuncData}
theorem yib{b:Bool}(h:¬ (!b)=true):b=true:=by cases b <;> simp_all
noncomputable def zfB(K:PySem.W.Frag):Sp:=λvs H Q _=>∃(a:Addr) (p m t:Nat),vs=[.ref a]/\Fld K H a p m t/\2<=p/\1<=m/\p^m<=64/\t<p^m/\
 ∀(b:Bool) H',Same H H'->(b=true->∀x y,0<x->x<p^m->x<p^(m/2+1)->0<y->y<p^m->mul p m t x y≠0)->Q (.bl b) H'
theorem zaC:yah ["_law_field_here","_law_p","_law_m","_law_top","_law_many","_law_one"] ["_law_field_here"] (zae zaY):=⟨rfl,rfl,rfl,by decide +kernel,rfl,by decide +kernel,by decide +kernel⟩
theorem zhn(B:Bl mg)(xBI:Has P w K mg base 1 "_law_raised" ["_law_one","_law_many"] zam)(xBG:Has P w K mg base 2 "_law_product" ["_law_field_here","_law_one","_law_other"] (yb9 K))(F:Fun K "_law_is_good" "_law_is_good" zaY f fd):FnOk P w K mg base CX0 3 f fd ["_law_field_here"] (zfB K):=by
 refine F.ok zaC (λvs H Q E h=>?_) (λcdv A outer s H vs Q E hr h=>?_)
 ·obtain⟨a,p,m,t,rfl,_⟩:=h;rfl
 obtain⟨a,p,m,t,rfl,hF,hp,hm,hpm,ht,q⟩:=h;have hp2:=p_le hp hm hpm;have hm6:=m_le hp hpm;have hpos:0<p^m:=xB1 (by lia);refine⟨_,(@zab _ _ _ _ _ (@yaU _ _ _ _ _ _ (pv 0) (@za2 _ _ _ _ _ _ rfl (@zah _ _ _ _ _ (@yae _ _ 1 _ zaC.nd rfl (Or.inl rfl) (by trivial)) (@zah _ _ _ _ _ (@yae _ _ 2 _ zaC.nd rfl (Or.inl rfl) (by trivial)) (@zah _ _ _ _ _ (@yae _ _ 3 _ zaC.nd rfl (Or.inl rfl) (by trivial)) zaE ⋯) ⋯) ⋯) ⋯ ⋯) ⋯ ⋯ ⋯) (@zab _ _ _ _ _ (@zag _ _ 4 _ _ _ _ zaC.nd rfl (Or.inl rfl) (@zad _ _ _ _ _ _ _ _ _ _ _ xBI hr (by decide) rfl (@zaa _ _ _ _ _ (pv 1) (@zaa _ _ _ _ _ (pv 2) zac ⋯) ⋯) (by decide) ⋯ ⋯) ⋯ (by trivial)) (@zab _ _ _ _ _ (@yaC _ _ _ _ _ _ _ _ xAl rfl (@yb2 _ _ _ _ _ _ _ rfl (B "range" (by decide)) (@zaa _ _ _ _ _ yac (@zaa _ _ _ _ _ (@zal _ _ _ _ _ _ _ _ _ (ygi rfl) rfl (B "min" (by decide)) yeq (@zaa _ _ _ _ _ (pv 4) (@zaa _ _ _ _ _ (@zad _ _ _ _ _ _ _ _ _ _ _ xBI hr (by decide) rfl (@zaa _ _ _ _ _ (pv 1) (@zaa _ _ _ _ _ (@zaf _ _ _ _ _ _ _ _ zau (@zaf _ _ _ _ _ _ _ _ ycz (pv 2) yac) yac) zac ⋯) ⋯) (by decide) ⋯ ⋯) zac ⋯) ⋯) (by decide) (by decide) ⋯ ⋯) zac ⋯) ⋯) ⋯ ⋯) (@yae _ _ 5 _ zaC.nd rfl (Or.inr rfl) (by trivial)) (@yad _ _ _ (@za3 _ _ _ _ _ _ _ _ (@yhW _ _ _ _ (@yg3 _ _ _ (@zal _ _ _ _ _ _ _ _ _ (ygE rfl) rfl (B "all" (by decide)) PyProof.Rows.boot_all (@zaa _ _ _ _ _ (@yaF _ _ _ _ _ _ _ ["_law_other"] ["_law_field_here","_law_one"] [0,5] _ _ _ _ (id (α:=CSc ["_law_field_here","_law_p","_law_m","_law_top","_law_many","_law_one"] (zae zaY) ["_law_other"] ["_law_field_here","_law_one"] [0,5] _) ⟨by rfl,by decide +kernel,by decide +kernel,by decide +kernel,by decide +kernel,by rfl,by decide +kernel⟩) rfl (@yb2 _ _ _ _ _ _ _ rfl (B "range" (by decide)) (@zaa _ _ _ _ _ yac (@zaa _ _ _ _ _ (pv 4) zac ⋯) ⋯) ⋯ ⋯) (λcl C fp s H=>(@yae _ _ 0 _ (by show List.Nodup (["_law_other","_law_field_here","_law_one"]:List Str);decide +kernel) rfl (Or.inl rfl) (by trivial))) (λ_ _ _ _ _=>zaM) (λ_ _ _ _ _=>(@ydi _ _ _ _ _ _ _ _ ybU (@zad _ _ _ _ _ _ _ _ _ _ _ xBG hr (by decide) rfl (@zaa _ _ _ _ _ (pv 1) (@zaa _ _ _ _ _ (pv 2) (@zaa _ _ _ _ _ (pv 0) zac ⋯) ⋯) ⋯) (by decide) ⋯ ⋯) yac (yak _))) (by intro _;rfl)) zac ⋯) (by decide) (by decide) ⋯ ⋯) (by intro _;rfl))) (@yad _ _ _ (@yaj _ _ _ _ zgy)) zaw)) (by intro _;rfl)) (@yad _ _ _ (@yaj _ _ _ _ zgy))))),?_⟩;refine⟨_,rfl,a,_,rfl,hF,rfl,_,_,rfl,_,_,rfl,_,_,rfl,rfl,?_⟩;refine⟨_,rfl,_,rfl,p,m,rfl,hp2,by lia,?_⟩;refine⟨_,rfl,_,rfl,_,rfl,_,_,rfl,rfl,⟨by show(0:Int)<2;decide,by show(2:Int)<2^64;decide⟩,?_⟩;refine⟨_,_,rfl,rfl,?_⟩;refine⟨p,m/2+1,rfl,hp2,by lia,?_⟩;refine⟨_,_,rfl,?_⟩;generalize hj:(if (((p^(m/2+1):Nat):Int)<((p^m:Nat):Int)) then((p^(m/2+1):Nat):Int) else((p^m:Nat):Int))=j;have hj2:0<=j/\j<=((p^m:Nat):Int)/\∀x:Nat,x<p^m->x<p^(m/2+1)->(x:Int)<j:=by
  rw[<-hj];split
  ·exact⟨by lia,by lia,λx h1 h2=>by lia⟩
  ·exact⟨by lia,by lia,λx h1 h2=>by lia⟩
 refine⟨1,j,rfl,⟨by lia,by lia,by lia,by lia⟩,?_⟩;refine zaR (λi σ H'=>Same H H'/\(∀x y,0<x->x<1+i->0<y->y<p^m->mul p m t x y≠0)/\∃s,σ=[some (.ref a),some (Vn p),some (Vn m),some (Vn t),some (Vn (p^m)),s]) ⟨Same.refl _,λx y h1 h2=>by lia,none,rfl⟩ ?_ ?_
 ·rintro i σ H' hi ⟨sm,hno,s,rfl⟩;refine⟨_,rfl,1,((p^m:Nat):Int),rfl,⟨by lia,by lia,by lia,by lia⟩,?_⟩;refine yav zbn (λk acc H1=>Same H H1/\acc=((List.range k).map λj=>decide (0<mul p m t (1+i) (1+j))).map V.bl) ⟨sm,rfl⟩ (λ_ _ _ _ _=>trivial) ?_ ?_ ?_
  ·rintro k acc H1 hk ⟨_,rfl⟩;rw[xA0,xA0,xAr];exact Nat.lt_of_le_of_lt (show k<=1000 by lia) (yao (xA4 _))
  ·rintro k acc x H1 H2 hk ⟨sm1,rfl⟩ ⟨rfl,rfl⟩;refine⟨_,rfl,_,rfl,_,rfl,a,p,m,t,1+i,1+k,rfl,Same.tup sm1 hF,hp,hm,hpm,ht,by lia,by lia,λr H3 s3 br hr=>?_⟩;have e:=yb4 hp hm br hr;subst e;refine⟨_,_,rfl,rfl,sm1.trans s3,?_⟩;rw[xBd,xAe,xAe];refine congrArg (_++[V.bl ·]) ?_;show decide ((0:Int)<((mul p m t (1+i) (1+k):Nat):Int))=decide (0<mul p m t (1+i) (1+k));exact decide_eq_decide.mpr (by lia)
  ·rintro acc H1 ⟨sm1,rfl⟩ D hD;refine⟨D,_,rfl,SqL.of yaa,_,rfl,?_⟩;refine ite2 (λc=>?_) (λc=>?_)
   ·exact q _ _ (sm1.trans (yab hD _)) (λh=>by cases h)
   ·refine⟨sm1.trans (yab hD _),λx y h1 h2 h3 h4=>?_,_,rfl⟩;by_cases hx:x<1+i
    ·exact hno x y h1 hx h3 h4
    ·have c2:((List.range (((p^m:Nat):Int)-1).toNat).map λj=>decide (0<mul p m t (1+i) (1+j))).all id=true:=yib c;rw[xB4]at c2;have c3:=c2 (decide (0<mul p m t (1+i) (1+(y-1)))) (xAg.mpr ⟨y-1,xAw.mpr (by lia),rfl⟩);have c4:0<mul p m t (1+i) (1+(y-1)):=xAj c3;rw[show 1+i=x by lia,show 1+(y-1)=y by lia]at c4;lia
 ·rintro σ H' ⟨sm,hno,s,rfl⟩;refine q _ _ sm λ_ x y h1 h2 h3 h4 h5=>hno x y h1 ?_ h4 h5
  have:=hj2.2.2 x h2 h3;lia
end
end My
end
section
-- text: P5
namespace My
open PySem L2 Dg
theorem zgN{p m:Nat}(h:(p,m)∈Dg.menu):(p,1)∈Dg.menu:=(by decide +kernel:∀c∈Dg.menu,(c.1,1)∈Dg.menu) (p,m) h
noncomputable def yfv:List (Int×Int)->TA
 | []=>tNil
 |(p,m)::r=>zc0 (tTup (zc0 (tC (.int p)) (zc0 (tC (.int m)) tNil))) (yfv r)
@[irreducible] noncomputable def zdl (ps:List (Int×Int)):TA:=yfv ps
theorem zdH(ps:List (Int×Int)):zdl ps=yfv ps:=by unfold zdl;rfl
theorem ydT:zdl []=tNil:=by rw[zdH];rfl
theorem ydb{p m:Int}{r:List (Int×Int)}:zdl ((p,m)::r)=zc0 (tTup (zc0 (tC (.int p)) (zc0 (tC (.int m)) tNil))) (zdl r):=by rw[zdH,zdH];rfl
section
variable {X:Cx}
theorem zcK:PA X [] (zdl []):=by rw[ydT];exact zac
theorem yam{p m:Int}{k1 k2 c:Nat}{p1 p2 p3:Pos}{es:List Expr}{r:List (Int×Int)}(h:PA X es (zdl r)):PA X (.Tuple [.Constant (.int p) k1 p1,.Constant (.int m) k2 p2] c p3::es) (zdl ((p,m)::r)):=by
 rw[ydb];exact zaa (zaP (zaa yac (zaa yac zac))) h
end
noncomputable def zdb(H:Hp)(t:Addr):Prop:=∃p m:Nat,H t=some (.tup [Vn p,Vn m])/\(p,m)∈Dg.menu
theorem zdb.same{H H':Hp}{t:Addr}(h:zdb H t)(s:∀o,H t=some o->H' t=some o):zdb H' t:=by
 obtain⟨p,m,e,q⟩:=h;exact⟨p,m,s _ e,q⟩
theorem zcT:∀(ps:List (Int×Int)) (σ:St) (H:Hp) (Q:List V->Hp->Prop),(∀x∈ps,∃p m:Nat,x=((p:Int),(m:Int))/\(p,m)∈Dg.menu)->
  (∀(ts:List Addr) H',Same H H'->ts.length=ps.length->(∀t∈ts,H t=none/\zdb H' t)->Q (ts.map V.ref) H')->zdl ps σ H Q
 | [],σ,H,Q,_,q=>by rw[ydT];exact q [] H (Same.refl _) rfl (λt ht=>nomatch ht)
 |(p,m)::r,σ,H,Q,hp,q=>by
  rw[ydb];refine⟨szl 2,λt ht=>?_⟩;obtain⟨p',m',e,b⟩:=hp (p,m) xAb;cases e;refine zcT r σ _ _ (λx hx=>hp x (xA7 _ hx)) λts H' s hl hts=>?_
  refine q (t::ts) H' ((yab ht _).trans s) (by simp[hl]) λt' ht'=>?_
  rcases xA9.mp ht' with e|e
  ·subst e;exact⟨ht,p',m',s _ _ yaa,b⟩
  ·exact⟨(yab ht _).free (hts t' e).1,(hts t' e).2⟩
structure Menu(a g:Addr)(H:Hp)(l:Addr)(n:Nat):Prop where
 ex:∃ts:List Addr,H l=some (.lst (ts.map V.ref))/\ts.length=n/\∀t∈ts,t≠a/\t≠g/\zdb H t
 na:l≠a
 ng:l≠g
theorem Menu.x{a g l:Addr}{n:Nat}{H H':Hp}(h:Menu a g H l n)(s:yar a g H H'):Menu a g H' l n:=by
 obtain⟨⟨ts,h1,h2,h3⟩,na,ng⟩:=h;exact⟨⟨ts,s _ _ na ng h1,h2,λt ht=>⟨(h3 t ht).1,(h3 t ht).2.1,(h3 t ht).2.2.same λo e=>s _ _ (h3 t ht).1 (h3 t ht).2.1 e⟩⟩,na,ng⟩
section
variable {P:Program} {w:World} {K:PySem.W.Frag} {mg:Str->Option Value} {base:Heap} {f:Addr} {fd:FuncData}
noncomputable def yb7:List Nat:=[17,19,23,29,31,37,41,43,47,53,59]
noncomputable def ze0:Sp:=λvs H Q _=>∃(a g:Addr),vs=[.ref a]/\Pu H a g/\∀(r:Addr) (p m t:Nat) H',r≠a->r≠g->H r=none->H' r=some (.tup [Vn p,Vn m,Vn t])->Good p m t->Pu H' a g->yar a g H H'->Q (.ref r) H'
theorem yaq:yah ["_law_purse_here","_law_some","_law_size","_law_p","_law_m","_law_many","_law_start","_law_turn","_law_field_here"] ["_law_purse_here"] (zae ybb):=⟨rfl,rfl,rfl,by decide +kernel,rfl,by decide +kernel,by decide +kernel⟩
theorem Pu.lt{H:Hp}{a g l:Addr}(h:Pu H a g)(hl:H l=none):l≠a/\l≠g:=by
 obtain⟨ns,s,t,h1,h2⟩:=h;exact⟨Ne.symm (yaf h1 hl),Ne.symm (yaf h2 hl)⟩
theorem zgx(B:Bl mg)(xBD:Has P w K mg base 1 "_law_pick" ["_law_purse_here","_law_many"] ycO)(xBI:Has P w K mg base 1 "_law_raised" ["_law_one","_law_many"] zam)(xBy:Has P w K mg base 3 "_law_is_good" ["_law_field_here"] (zfB K))(F:Fun K "_law_field" "_law_field" ybb f fd):FnOk P w K mg base CX0 4 f fd ["_law_purse_here"] ze0:=by
 refine F.ok yaq (λvs H Q E h=>?_) (λcdv A outer s H vs Q E hr h=>?_)
 ·obtain⟨a,g,rfl,_⟩:=h;rfl
 obtain⟨a,g,rfl,hP,q⟩:=h;refine⟨_,(@zab _ _ _ _ _ (@zag _ _ 1 _ _ _ _ yaq.nd rfl (Or.inl rfl) (@yaA _ _ _ _ (@yam _ _ _ _ _ _ _ _ _ _ _ (@yam _ _ _ _ _ _ _ _ _ _ _ (@yam _ _ _ _ _ _ _ _ _ _ _ (@yam _ _ _ _ _ _ _ _ _ _ _ (@yam _ _ _ _ _ _ _ _ _ _ _ (@yam _ _ _ _ _ _ _ _ _ _ _ (@yam _ _ _ _ _ _ _ _ _ _ _ (@yam _ _ _ _ _ _ _ _ _ _ _ (@yam _ _ _ _ _ _ _ _ _ _ _ (@yam _ _ _ _ _ _ _ _ _ _ _ (@yam _ _ _ _ _ _ _ _ _ _ _ (@yam _ _ _ _ _ _ _ _ _ _ _ zcK))))))))))))) ⋯ (by trivial)) (@zab _ _ _ _ _ (@zag _ _ 2 _ _ _ _ yaq.nd rfl (Or.inl rfl) (@zad _ _ _ _ _ _ _ _ _ _ _ xBD hr (by decide) rfl (@zaa _ _ _ _ _ (pv 0) (@zaa _ _ _ _ _ yac zac ⋯) ⋯) (by decide) ⋯ ⋯) ⋯ (by trivial)) (@zab _ _ _ _ _ (@za3 _ _ _ _ _ _ _ _ (@zai _ _ _ _ _ _ _ _ ya9 (pv 2) yac (yak _)) (@yad _ _ _ (@zag _ _ 1 _ _ _ _ yaq.nd rfl (Or.inl rfl) (@yaA _ _ _ _ (@yam _ _ _ _ _ _ _ _ _ _ _ (@yam _ _ _ _ _ _ _ _ _ _ _ (@yam _ _ _ _ _ _ _ _ _ _ _ (@yam _ _ _ _ _ _ _ _ _ _ _ zcK))))) ⋯ (by trivial))) zaw) (@zab _ _ _ _ _ (@za3 _ _ _ _ _ _ _ _ (@zai _ _ _ _ _ _ _ _ ya9 (pv 2) yac (yak _)) (@yad _ _ _ (@zcE _ 1 _ _ _ _ _ _ _ _ _ ["_law_p"] [] [] _ _ _ _ yaq.nd rfl (Or.inl rfl) (id (α:=CSc ["_law_purse_here","_law_some","_law_size","_law_p","_law_m","_law_many","_law_start","_law_turn","_law_field_here"] (zae ybb) ["_law_p"] [] [] _) ⟨by rfl,by decide +kernel,by decide +kernel,by decide +kernel,by decide +kernel,by rfl,by decide +kernel⟩) rfl (@yaN _ _ _ _ (@yaA _ _ _ _ (@zaa _ _ _ _ _ yac (@zaa _ _ _ _ _ yac (@zaa _ _ _ _ _ yac (@zaa _ _ _ _ _ yac (@zaa _ _ _ _ _ yac (@zaa _ _ _ _ _ yac (@zaa _ _ _ _ _ yac (@zaa _ _ _ _ _ yac (@zaa _ _ _ _ _ yac (@zaa _ _ _ _ _ yac (@zaa _ _ _ _ _ yac zac ⋯) ⋯) ⋯) ⋯) ⋯) ⋯) ⋯) ⋯) ⋯) ⋯) ⋯))) (λcl C fp s H=>(@yae _ _ 0 _ (by show List.Nodup (["_law_p"]:List Str);decide +kernel) rfl (Or.inl rfl) (by trivial))) (λ_ _ _ _ _=>zaM) (λ_ _ _ _ _=>(@zaP _ _ _ _ _ (@zaa _ _ _ _ _ (pv 0) (@zaa _ _ _ _ _ yac zac ⋯) ⋯))) ⋯ (by intro _;rfl) (by trivial))) zaw) (@zab _ _ _ _ _ (@yaU _ _ _ _ _ _ (@zan _ _ _ _ _ _ _ zao (pv 1) (@zad _ _ _ _ _ _ _ _ _ _ _ xBD hr (by decide) rfl (@zaa _ _ _ _ _ (pv 0) (@zaa _ _ _ _ _ (@zal _ _ _ _ _ _ _ _ _ zaj rfl (B "len" (by decide)) xAT (@zaa _ _ _ _ _ (pv 1) zac ⋯) (by decide) (by decide) ⋯ ⋯) zac ⋯) ⋯) (by decide) ⋯ ⋯) (λ_ _=>rfl)) (@za2 _ _ _ _ _ _ rfl (@zah _ _ _ _ _ (@yae _ _ 3 _ yaq.nd rfl (Or.inl rfl) (by trivial)) (@zah _ _ _ _ _ (@yae _ _ 4 _ yaq.nd rfl (Or.inl rfl) (by trivial)) zaE ⋯) ⋯) ⋯ ⋯) ⋯ ⋯ ⋯) (@zab _ _ _ _ _ (@zag _ _ 5 _ _ _ _ yaq.nd rfl (Or.inl rfl) (@zad _ _ _ _ _ _ _ _ _ _ _ xBI hr (by decide) rfl (@zaa _ _ _ _ _ (pv 3) (@zaa _ _ _ _ _ (pv 4) zac ⋯) ⋯) (by decide) ⋯ ⋯) ⋯ (by trivial)) (@zab _ _ _ _ _ (@zag _ _ 6 _ _ _ _ yaq.nd rfl (Or.inl rfl) (@zad _ _ _ _ _ _ _ _ _ _ _ xBD hr (by decide) rfl (@zaa _ _ _ _ _ (pv 0) (@zaa _ _ _ _ _ (pv 5) zac ⋯) ⋯) (by decide) ⋯ ⋯) ⋯ (by trivial)) (@zab _ _ _ _ _ (@yaC _ _ _ _ _ _ _ _ xAl rfl (@yaK _ _ _ _ _ _ rfl (B "range" (by decide)) (@zaa _ _ _ _ _ (pv 5) zac ⋯) ⋯) (@yae _ _ 7 _ yaq.nd rfl (Or.inl rfl) (by trivial)) (@zab _ _ _ _ _ (@zag _ _ 8 _ _ _ _ yaq.nd rfl (Or.inl rfl) (@zaP _ _ _ _ _ (@zaa _ _ _ _ _ (pv 3) (@zaa _ _ _ _ _ (pv 4) (@zaa _ _ _ _ _ (@zaf _ _ _ _ _ _ _ _ yaz (@zaf _ _ _ _ _ _ _ _ zau (pv 6) (pv 7)) (pv 5)) zac ⋯) ⋯) ⋯)) ⋯ (by trivial)) (@yad _ _ _ (@za3 _ _ _ _ _ _ _ _ (@PW.pt _ _ _ (@zfu _ _ _ _ _ _ _ (@zai _ _ _ _ _ _ _ _ ya9 (pv 4) yac (yak _)) (@zdS _ _ _ _ (@yg3 _ _ _ (@zad _ _ _ _ _ _ _ _ _ _ _ xBy hr (by decide) rfl (@zaa _ _ _ _ _ (pv 8) zac ⋯) (by decide) ⋯ ⋯) (by intro _;rfl))))) (@yad _ _ _ (@yaj _ _ _ _ (pv 8))) zaw))) (by intro _;rfl)) (@yad _ _ _ (@yaj _ _ _ _ (@zaP _ _ _ _ _ (@zaa _ _ _ _ _ (pv 3) (@zaa _ _ _ _ _ yac (@zaa _ _ _ _ _ yac zac ⋯) ⋯) ⋯)))))))))))),?_⟩
 refine zcT [(2,1),(2,2),(2,3),(2,4),(3,1),(3,2),(3,3),(5,1),(5,2),(7,1),(11,1),(13,1)] _ H _ ?_ λts H0 s0 hts hpair=>?_
 ·intro x hx;simp only[xA9,xAn,xB0]at hx;rcases hx with rfl|rfl|rfl|rfl|rfl|rfl|rfl|rfl|rfl|rfl|rfl|rfl
  ·exact⟨2,1,rfl,by decide +kernel⟩
  ·exact⟨2,2,rfl,by decide +kernel⟩
  ·exact⟨2,3,rfl,by decide +kernel⟩
  ·exact⟨2,4,rfl,by decide +kernel⟩
  ·exact⟨3,1,rfl,by decide +kernel⟩
  ·exact⟨3,2,rfl,by decide +kernel⟩
  ·exact⟨3,3,rfl,by decide +kernel⟩
  ·exact⟨5,1,rfl,by decide +kernel⟩
  ·exact⟨5,2,rfl,by decide +kernel⟩
  ·exact⟨7,1,rfl,by decide +kernel⟩
  ·exact⟨11,1,rfl,by decide +kernel⟩
  ·exact⟨13,1,rfl,by decide +kernel⟩
 refine⟨by rw[xA0,hts];exact szl 12,λl hl=>?_⟩;have hP0:Pu (upd H0 l (.lst (ts.map V.ref))) a g:=hP.same (s0.trans (yab hl _));have sx0:yar a g H (upd H0 l (.lst (ts.map V.ref))):=Same.x (s0.trans (yab hl _));have M0:Menu a g (upd H0 l (.lst (ts.map V.ref))) l 12:=by
  have n1:=(hP.same s0).lt hl;refine⟨⟨ts,yaa,hts,λt ht=>?_⟩,n1.1,n1.2⟩;have n2:=hP.lt (hpair t ht).1;exact⟨n2.1,n2.2,(hpair t ht).2.same λo e=>(yab hl _) _ _ e⟩
 generalize upd H0 l (.lst (ts.map V.ref))=G at hP0 sx0 M0 ⊢;refine⟨_,rfl,a,g,8,rfl,hP0,by lia,by lia,λsz H1 hsz hP1 sx1=>?_⟩;have sxA:=sx0.trans sx1;have M1:=M0.x sx1;dsimp only[yau];refine za9 (λσ H'=>∃l n,0<n/\n<=12/\Menu a g H' l n/\Pu H' a g/\yar a g H H'/\σ=[some (.ref a),some (.ref l),some (Vn sz),none,none,none,none,none,none]) ?_ ?_
 ·rintro σ H2 ⟨l,n,hn,hn2,M2,hP2,sx2,rfl⟩;refine za9 (λσ H'=>∃l n,0<n/\n<=12/\Menu a g H' l n/\Pu H' a g/\yar a g H H'/\σ=[some (.ref a),some (.ref l),some (Vn sz),none,none,none,none,none,none]) ?_ ?_
  ·rintro σ H3 ⟨l,n,hn,hn2,M3,hP3,sx3,rfl⟩;obtain⟨ts3,e3,l3,p3⟩:=M3.ex;refine⟨_,rfl,_,rfl,_,rfl,l,_,rfl,.inl (SqL.of e3),?_⟩;refine⟨a,g,n,by rw[xA0,l3];rfl,hP3,hn,by lia,λi H4 hi hP4 sx4=>?_⟩;obtain⟨ts4,e4,l4,p4⟩:=(M3.x sx4).ex;have hi4:i<ts4.length:=by lia
   refine⟨l,_,_,.ref (ts4[i]),rfl,rfl,SqL.of e4,zaN (by rw[xA8,xA5 hi4];rfl),?_⟩;obtain⟨_,_,p,m,ep,hmem⟩:=p4 ts4[i] (xBp hi4);obtain⟨hp,hm,hpm⟩:=ybn hmem;have hp2:=p_le hp hm hpm;have hm6:=m_le hp hpm;have hpos:0<p^m:=xB1 (by lia);refine⟨ts4[i],_,rfl,SqT.of ep,rfl,_,_,rfl,_,_,rfl,rfl,?_⟩;refine⟨_,rfl,_,rfl,p,m,rfl,hp2,by lia,?_⟩;refine⟨_,rfl,_,rfl,a,g,p^m,rfl,hP4,hpos,by lia,λst H5 hst hP5 sx5=>?_⟩;have sxE:=sx3.trans (sx4.trans sx5);refine⟨_,rfl,((p^m:Nat):Int),rfl,by lia,by lia,?_⟩;refine zaR (n:=p^m) (λi σ H'=>Pu H' a g/\yar a g H H'/\∃s7 s8,σ=[some (.ref a),some (.ref l),some (Vn sz),some (Vn p),some (Vn m),some (Vn (p^m)),some (Vn st),s7,s8]) ⟨hP5,sxE,none,none,rfl⟩ ?_ ?_
   ·rintro j σ H6 hj ⟨hP6,sx6,s7,s8,rfl⟩;refine⟨_,rfl,_,rfl,_,rfl,_,rfl,_,_,rfl,rfl,?_⟩;refine⟨_,rfl,_,_,rfl,rfl,by show(0:Int)<((p^m:Nat):Int);lia,?_⟩;refine⟨szl 3,λr hr=>?_⟩;have nr:=hP6.lt hr;have hr0:H r=none:=by
     cases e:H r with
     |none=>rfl
     |some o=>rw[sx6 r o nr.1 nr.2 e]at hr;cases hr
    have et:V.int ((((st:Nat):Int)+(0+(j:Int)))%((p^m:Nat):Int))=Vn ((st+j)%p^m):=by show V.int _=V.int _;congr 1;rw[Int.zero_add];rfl
    have hlt:(st+j)%p^m<p^m:=xAR _ hpos;have hP7:Pu (upd H6 r (.tup [Vn p,Vn m,Vn ((st+j)%p^m)])) a g:=hP6.same (yab hr _);have sx7:yar a g H (upd H6 r (.tup [Vn p,Vn m,Vn ((st+j)%p^m)])):=sx6.trans (Same.x (yab hr _));dsimp only[yau];rw[et];refine⟨_,rfl,rfl,_,rfl,?_⟩;refine ite2 (λc=>?_) (λc=>?_)
    ·refine ite2 (λ_=>?_) (λc=>absurd rfl c);have hm1:m=1:=by
      have:=xAj c;injection this with this;lia
     exact⟨_,rfl,q r p m _ _ nr.1 nr.2 hr0 yaa ⟨hmem,hlt,.inl hm1⟩ hP7 sx7⟩
    ·refine⟨_,rfl,r,p,m,(st+j)%p^m,rfl,SqT.of yaa,hp,hm,hpm,hlt,λb H8 s8' hb=>?_⟩;refine⟨_,rfl,?_⟩;refine ite2 (λc2=>?_) (λ_=>?_)
     ·exact⟨_,rfl,q r p m _ _ nr.1 nr.2 hr0 (s8' _ _ yaa) ⟨hmem,hlt,.inr (hb c2)⟩ (hP7.same s8') (sx7.trans (Same.x s8'))⟩
     ·exact⟨hP7.same s8',sx7.trans (Same.x s8'),_,_,rfl⟩
   ·rintro σ H6 ⟨hP6,sx6,s7,s8,rfl⟩;refine⟨_,rfl,szl 3,λr hr=>?_⟩;have nr:=hP6.lt hr;have hr0:H r=none:=by
     cases e:H r with
     |none=>rfl
     |some o=>rw[sx6 r o nr.1 nr.2 e]at hr;cases hr
    exact q r p 1 0 _ nr.1 nr.2 hr0 yaa ⟨zgN hmem,by simp;lia,.inl rfl⟩ (hP6.same (yab hr _)) (sx6.trans (Same.x (yab hr _)))
  ·intro D' _ _ _ hD;refine⟨_,rfl,rfl,_,rfl,?_⟩;refine ite2 (λc=>?_) (λc=>hD _ _ ⟨l,n,hn,hn2,M2,hP2,sx2,rfl⟩);refine⟨szl 11,λl2 hl2=>?_⟩;refine⟨l2,rfl,⟨_,SqL.of yaa⟩,?_⟩;refine yav (yaE (xs:=yb7.map Vn)) (λk acc H'=>Same (upd H2 l2 (.lst (yb7.map Vn))) H'/\∃ts:List Addr,ts.length=k/\acc=ts.map V.ref/\∀t∈ts,t≠a/\t≠g/\zdb H' t)
    ⟨Same.refl _,[],rfl,rfl,λt ht=>nomatch ht⟩ (λi acc H' _ h=>SqL.of (h.1 _ _ yaa)) ?_ ?_ ?_
   ·rintro k acc H' hk ⟨_,ts,e,rfl,_⟩;have hk':k<11:=hk;rw[xA0,e];exact yao (by lia)
   ·rintro k acc x H3 H4 hk ⟨s3,ts,e,rfl,hts⟩ ⟨rfl,hx⟩;obtain⟨pr,hpr,rfl⟩:∃pr,pr∈yb7/\x=Vn pr:=by
     rw[xA8]at hx;cases e:yb7[k]? with
     |none=>rw[e]at hx;cases hx
     |some pr=>rw[e]at hx;cases hx;exact⟨pr,xBc e,rfl⟩
    have hb:(pr,1)∈Dg.menu:=(by decide +kernel:∀x∈yb7,(x,1)∈Dg.menu) pr hpr;refine⟨_,rfl,szl 2,λt ht=>?_⟩;have hP3:Pu H4 a g:=hP2.same ((yab hl2 _).trans s3);have nt:=hP3.lt ht;refine⟨s3.trans (yab ht _),ts++[t],by simp[e],by simp,λt' ht'=>?_⟩;rcases xAE.mp ht' with h|h
    ·exact⟨(hts t' h).1,(hts t' h).2.1,(hts t' h).2.2.same λo e=>(yab ht _) _ _ e⟩
    ·cases xAA.mp h;exact⟨nt.1,nt.2,pr,1,yaa,hb⟩
   ·rintro acc H3 ⟨s3,ts,e,rfl,hts⟩ D hD3;have sA:Same H2 H3:=(yab hl2 _).trans s3;have hP3:Pu H3 a g:=hP2.same sA;have nD:=hP3.lt hD3;refine hD _ _ ⟨D,11,by lia,by lia,⟨⟨ts,yaa,e,λt ht=>?_⟩,nD.1,nD.2⟩,hP3.same (yab hD3 _),sx2.trans (Same.x (sA.trans (yab hD3 _))),rfl⟩;exact⟨(hts t ht).1,(hts t ht).2.1,(hts t ht).2.2.same λo e=>(yab hD3 _) _ _ e⟩
 ·intro D' _ _ _ hD;refine⟨_,rfl,rfl,_,rfl,?_⟩;refine ite2 (λc=>?_) (λc=>hD _ _ ⟨l,12,by lia,by lia,M1,hP1,sxA,rfl⟩);refine zcT [(2,5),(2,6),(7,2),(61,1)] _ H1 _ ?_ λts2 H2 s2 hts2 hpair2=>?_
  ·intro x hx;simp only[xA9,xAn,xB0]at hx;rcases hx with rfl|rfl|rfl|rfl
   ·exact⟨2,5,rfl,by decide +kernel⟩
   ·exact⟨2,6,rfl,by decide +kernel⟩
   ·exact⟨7,2,rfl,by decide +kernel⟩
   ·exact⟨61,1,rfl,by decide +kernel⟩
  refine⟨by rw[xA0,hts2];exact szl 4,λl2 hl2=>?_⟩;refine hD _ _ ⟨l2,4,by lia,by lia,?_,hP1.same (s2.trans (yab hl2 _)),sxA.trans (Same.x (s2.trans (yab hl2 _))),rfl⟩;have n1:=(hP1.same s2).lt hl2;refine⟨⟨ts2,yaa,hts2,λt ht=>?_⟩,n1.1,n1.2⟩;have n2:=hP1.lt (hpair2 t ht).1;exact⟨n2.1,n2.2,(hpair2 t ht).2.same λo e=>(yab hl2 _) _ _ e⟩
end
end My
end
section
-- text: P8
namespace My
open PySem L2 Dg
theorem ydW:bootBuiltins "dict"=some (.type "dict"):=by decide +kernel
noncomputable def Pws(p m t b:Nat):List Nat:=(List.range (p^m-1)).map (pw p m t b)
noncomputable def Logs(p m t b:Nat):List (Key×V):=(List.range (p^m-1)).map λi=>(Sum.inl ((pw p m t b i:Nat):Int),Vn i)
noncomputable def tabD(fa pa la:Addr)(p m:Nat):List (Key×V):=[(.inr "field",.ref fa),(.inr "p",Vn p),(.inr "m",Vn m),(.inr "many",Vn (p^m)),(.inr "powers",.ref pa),(.inr "logs",.ref la)]
structure Tab(H:Hp)(tb fa pa la:Addr)(p m t b:Nat):Prop where
 d:H tb=some (.dK (tabD fa pa la p m))
 f:H fa=some (.tup [Vn p,Vn m,Vn t])
 w:H pa=some (.lst ((Pws p m t b).map Vn))
 l:H la=some (.dK (Logs p m t b))
 good:Good p m t
 prim:Prim p m t b
theorem Tab.same{H H':Hp}{tb fa pa la:Addr}{p m t b:Nat}(T:Tab H tb fa pa la p m t b)(s:Same H H'):Tab H' tb fa pa la p m t b :=
 ⟨s _ _ T.d,s _ _ T.f,s _ _ T.w,s _ _ T.l,T.good,T.prim⟩
theorem za8{α:Type}{f:Nat->α}(n:Nat)(h:∀i j,i<n->j<n->f i=f j->i=j):((List.range n).map f).Nodup:=by
 rw[List.Nodup,List.pairwise_iff_getElem];intro i j hi hj hij;simp only[xA0,xAr]at hi hj;simp only[xBq,xBh];intro e;have:=h i j hi hj e;lia
theorem yfm{f:Nat->Key}{g:Nat->V}:∀(l:List Nat) (n:Nat),l=List.range n->(∀i j,i<n->j<n->f i=f j->i=j)->∀i,i<n->valV (l.map λi=>(f i,g i)) (f i)=some (g i):=by
 intro l n hl h i hi;subst hl;unfold valV;rw[List.find?_map];have e:(List.range n).find? ((λkv:Key×V=>decide (kv.1=f i)) ∘ λi=>(f i,g i))=some i:=by
  rw[List.find?_range_eq_some];refine⟨by simp,by simpa using hi,λj hj=>?_⟩;simp only[Function.comp,Bool.not_eq_true',decide_eq_false_iff_not];intro e;have:=h j i (by lia) hi e;lia
 rw[e];rfl
theorem yfl(fa pa la:Addr)(p m:Nat):yc8 [] (tabD fa pa la p m)=tabD fa pa la p m:=rfl
theorem zdC(p m t b:Nat):(Pws p m t b).length=p^m-1:=by simp[Pws]
section
variable {P:Program} {w:World} {K:PySem.W.Frag} {mg:Str->Option Value} {base:Heap} {f:Addr} {fd:FuncData}
noncomputable def ze5:Sp:=λvs H Q _=>∃(fa:Addr) (p m t:Nat),vs=[.ref fa]/\H fa=some (.tup [Vn p,Vn m,Vn t])/\Good p m t/\∀tb pa la b H',H tb=none->H pa=none->H la=none->Tab H' tb fa pa la p m t b->Same H H'->Q (.ref tb) H'
theorem zaJ:yah ["_law_field_here","_law_many","_law_powers","_law_base","_law_thing","_law_logs"] ["_law_field_here"] (zae zbc):=⟨rfl,rfl,rfl,by decide +kernel,rfl,by decide +kernel,by decide +kernel⟩
theorem zgF(B:Bl mg)(xBI:Has P w K mg base 1 "_law_raised" ["_law_one","_law_many"] zam)(xBG:Has P w K mg base 2 "_law_product" ["_law_field_here","_law_one","_law_other"] (yb9 K))(F:Fun K "_law_table" "_law_table" zbc f fd):FnOk P w K mg base CX0 3 f fd ["_law_field_here"] ze5:=by
 refine F.ok zaJ (λvs H Q E h=>?_) (λcdv A outer s H vs Q E hr h=>?_)
 ·obtain⟨fa,p,m,t,rfl,_⟩:=h;rfl
 obtain⟨fa,p,m,t,rfl,hf,G,q⟩:=h;obtain⟨b,Pb⟩:=G.prim;have hp:=G.hp;have hm:=G.hm;have hpm:=G.hq;have ht:=G.top;have hp2:=p_le hp hm hpm;have hm6:=m_le hp hpm;have hQ2:=zax hp hm;have hbp:=Pb.pos;have hbl:=Pb.lt;refine⟨_,(@zab _ _ _ _ _ (@zag _ _ 1 _ _ _ _ zaJ.nd rfl (Or.inl rfl) (@zad _ _ _ _ _ _ _ _ _ _ _ xBI hr (by decide) rfl (@zaa _ _ _ _ _ (@zan _ _ _ _ _ _ _ zas (pv 0) yac (λ_ _=>rfl)) (@zaa _ _ _ _ _ (@zan _ _ _ _ _ _ _ zas (pv 0) yac (λ_ _=>rfl)) zac ⋯) ⋯) (by decide) ⋯ ⋯) ⋯ (by trivial)) (@zab _ _ _ _ _ (@ybS _ _ 2 3 _ _ _ _ _ _ _ _ _ _ _ rfl zaJ.nd rfl rfl (by decide) rfl rfl (@zaa _ _ _ _ _ (@yaA _ _ _ _ zac) (@zaa _ _ _ _ _ yac zac ⋯) ⋯) rfl ⋯) (@zab _ _ _ _ _ (@yaL _ _ _ _ _ _ xAl (@zai _ _ _ _ _ _ _ _ yhR (@zal _ _ _ _ _ _ _ _ _ zaj rfl (B "len" (by decide)) xAT (@zaa _ _ _ _ _ (pv 2) zac ⋯) (by decide) (by decide) ⋯ ⋯) (@zaf _ _ _ _ _ _ _ _ yaG (pv 1) yac) (yak _)) (@zab _ _ _ _ _ (@yey _ _ 3 2 4 _ _ _ _ _ _ _ _ _ _ _ _ _ _ rfl zaJ.nd rfl rfl rfl (by decide) rfl rfl rfl (@zaa _ _ _ _ _ (@zaf _ _ _ _ _ _ _ _ zau (pv 3) yac) (@zaa _ _ _ _ _ (@yaA _ _ _ _ (@zaa _ _ _ _ _ yac zac ⋯)) (@zaa _ _ _ _ _ (@zaf _ _ _ _ _ _ _ _ zau (pv 3) yac) zac ⋯) ⋯) ⋯) rfl ⋯) (@yad _ _ _ (@yaL _ _ _ _ _ _ xAl (@zai _ _ _ _ _ _ _ _ zd5 (pv 4) yac (yak _)) (@zab _ _ _ _ _ (@ycf _ _ _ _ (@zfi _ _ _ _ _ _ _ _ _ _ _ _ PySem.F.plainAttrs_list PySem.F.slot_list_append PySem.F.type_list_append yb6 (pv 2) (@zaa _ _ _ _ _ (pv 4) zac ⋯) ⋯ ⋯ ⋯ ⋯ ⋯) ⋯) (@yad _ _ _ (@zag _ _ 4 _ _ _ _ zaJ.nd rfl (Or.inl rfl) (@zad _ _ _ _ _ _ _ _ _ _ _ xBG hr (by decide) rfl (@zaa _ _ _ _ _ (pv 0) (@zaa _ _ _ _ _ (pv 4) (@zaa _ _ _ _ _ (pv 3) zac ⋯) ⋯) ⋯) (by decide) ⋯ ⋯) ⋯ (by trivial)))))))) (@zab _ _ _ _ _ (@zag _ _ 5 _ _ _ _ zaJ.nd rfl (Or.inl rfl) (@zap _ _ _ _ _ _ _ _ _ (ycS rfl) rfl (B "dict" (by decide)) ydW (@zaa _ _ _ _ _ (@yaF _ _ _ _ _ _ _ ["_law_at","_law_thing"] [] [] _ _ _ _ (id (α:=CSc ["_law_field_here","_law_many","_law_powers","_law_base","_law_thing","_law_logs"] (zae zbc) ["_law_at","_law_thing"] [] [] _) ⟨by rfl,by decide +kernel,by decide +kernel,by decide +kernel,by decide +kernel,by rfl,by decide +kernel⟩) rfl (@ybC _ _ _ _ _ _ _ _ rfl (B "enumerate" (by decide)) (@zaa _ _ _ _ _ (pv 2) zac ⋯) ⋯) (λcl C fp s H=>(@zep _ _ _ _ 2 _ K rfl rfl (@zah _ _ _ _ _ (@yae _ _ 0 _ (by show List.Nodup (["_law_at","_law_thing"]:List Str);decide +kernel) rfl (Or.inl rfl) (by trivial)) (@zah _ _ _ _ _ (@yae _ _ 1 _ (by show List.Nodup (["_law_at","_law_thing"]:List Str);decide +kernel) rfl (Or.inl rfl) (by trivial)) zaE ⋯) ⋯) ⋯ ⋯)) (λ_ _ _ _ _=>zaM) (λ_ _ _ _ _=>(@zaP _ _ _ _ _ (@zaa _ _ _ _ _ (pv 1) (@zaa _ _ _ _ _ (pv 0) zac ⋯) ⋯))) (by intro _;rfl)) zac ⋯) (by decide) (by decide) ⋯ ⋯) ⋯ (by trivial)) (@yad _ _ _ (@yaj _ _ _ _ (@yho _ _ _ _ _ (@zbO _ _ _ _ _ _ _ _ _ zaH (pv 0) (@zbO _ _ _ _ _ _ _ _ _ zaH (@zan _ _ _ _ _ _ _ zas (pv 0) yac (λ_ _=>rfl)) (@zbO _ _ _ _ _ _ _ _ _ zaH (@zan _ _ _ _ _ _ _ zas (pv 0) yac (λ_ _=>rfl)) (@zbO _ _ _ _ _ _ _ _ _ zaH (pv 1) (@zbO _ _ _ _ _ _ _ _ _ zaH (pv 2) (@zbO _ _ _ _ _ _ _ _ _ zaH (pv 5) zhq)))))) rfl rfl (λh=>nomatch h) (by decide)))))))),?_⟩
 refine⟨_,rfl,fa,_,_,_,rfl,rfl,SqT.of hf,rfl,?_⟩;refine⟨_,rfl,fa,_,_,_,rfl,rfl,SqT.of hf,rfl,?_⟩;refine⟨p,m,rfl,hp2,by lia,?_⟩;refine⟨szl 0,λl0 hl0=>⟨_,_,rfl,?_⟩⟩;dsimp only[];refine za9 (λσ H'=>Same H H'/\∃pa s4,H pa=none/\H' pa=some (.lst ((Pws p m t b).map Vn))/\σ=[some (.ref fa),some (Vn (p^m)),some (.ref pa),some (Vn b),s4,none]) ?_ ?_
 ·rintro σ H1 ⟨s1,pa,s4,npa,epa,rfl⟩;refine⟨_,rfl,false,pa,rfl,⟨_,SqL.of epa⟩,?_⟩;refine yav (ya1 (b:=false) (xs:=(Pws p m t b).map Vn)) (λk acc H'=>Same H1 H'/\∃ts:List Addr,ts.length=k/\acc=ts.map V.ref/\∀j a,ts[j]?=some a->H' a=some (.tup [Vn (pw p m t b j),Vn j])) ⟨Same.refl _,[],rfl,rfl,λj a e=>by simp at e⟩ (λi acc H' _ h=>SqL.of (h.1 _ _ epa)) ?_ ?_ ?_
  ·rintro k acc H' hk ⟨_,ts,e,rfl,_⟩;rw[xA0,zdC]at hk;rw[xA0,e];exact yao (by lia)
  ·rintro k acc x H2 H3 hk ⟨s2,ts,e,rfl,hts⟩ ⟨T,u,rfl,eu,hT,rfl⟩;rw[xA0,zdC]at hk;have eu2:u=Vn (pw p m t b k):=by
    unfold Pws at eu;rw[xA8,xA8,xAL hk]at eu;exact(xAv eu).symm
   subst eu2;refine⟨T,_,rfl,SqT.of yaa,rfl,_,_,rfl,_,_,rfl,rfl,?_⟩;refine⟨_,rfl,_,rfl,szl 2,λa ha=>?_⟩;have sA:=(yab hT (.tup [.int (k:Int),Vn (pw p m t b k)])).trans (yab ha (.tup [Vn (pw p m t b k),Vn k]));refine⟨s2.trans sA,ts++[a],by simp[e],by simp,λj a' ej=>?_⟩;rw[List.getElem?_append]at ej;split at ej
   ·exact sA _ _ (hts j a' ej)
   ·rename_i h;have hj:j=k:=by
     have:=(xAk.mp ej).1;simp at this;lia
    subst hj;simp[e]at ej;subst ej;exact yaa
  ·rintro acc H2 ⟨s2,ts,e,rfl,hts⟩ D hD;rw[xA0,zdC]at e;have sB:=yab hD (.lst (ts.map V.ref));refine⟨D,ts,Logs p m t b,rfl,yaa,by rw[e];simp[Logs],by simp only[Logs,xA0,xAr];exact szl _ (by lia),λj a kv ej ek=>?_,?_,λla hla=>?_⟩
   ·have hj:j<p^m-1:=by have:=(xAk.mp ej).1;lia
    unfold Logs at ek;rw[xA8,xAL hj]at ek;cases ek;exact sB _ _ (hts j a ej)
   ·unfold Logs;rw[List.map_map];refine za8 _ λi j hi hj e=>G.inj Pb i j hi hj ?_
    have e:Sum.inl ((pw p m t b i:Nat):Int)=(Sum.inl ((pw p m t b j:Nat):Int):Key):=e;injection e with e;lia
   ·intro tb htb;have s3:Same H1 (upd (upd H2 D (.lst (ts.map V.ref))) la (.dK (Logs p m t b))):=(s2.trans sB).trans (yab hla _);have s4:=s3.trans (yab htb (.dK []));have s5:=s1.trans s4;refine⟨_,rfl,_,rfl,fa,_,_,_,rfl,rfl,SqT.of (s5 _ _ hf),rfl,?_⟩;refine⟨_,rfl,fa,_,_,_,rfl,rfl,SqT.of (s5 _ _ hf),rfl,?_⟩;refine⟨_,rfl,_,rfl,_,rfl,yaa,tabD fa pa la p m,rfl,by show 6<=15;decide,?_⟩;rw[zek,yfl];have s6:=s3.trans (yab htb (.dK (tabD fa pa la p m)));have s7:=s1.trans s6;have old:∀a,H1 a=none->H a=none:=λa ha=>by
     cases e:H a with
     |none=>rfl
     |some o=>rw[s1 _ _ e]at ha;cases ha
    have old2:∀a,upd H2 D (.lst (ts.map V.ref)) a=none->H a=none:=λa ha=>by
     cases e:H a with
     |none=>rfl
     |some o=>rw[(s2.trans sB) _ _ (s1 _ _ e)]at ha;cases ha
    refine q tb pa la b _ ?_ npa (old2 la hla) ⟨yaa,s7 _ _ hf,s6 _ _ epa,(yab htb _) _ _ yaa,G,Pb⟩ s7;cases e:H tb with
    |none=>rfl
    |some o=>rw[s3 _ _ (s1 _ _ e)]at htb;cases htb
 ·intro D' _ _ _ hD;refine zaL (λσ H'=>Same H H'/\∃base pa s4,H pa=none/\σ=[some (.ref fa),some (Vn (p^m)),some (.ref pa),some (Vn base),s4,none]/\∃L:List Nat,H' pa=some (.lst (L.map Vn))/\((base=b/\L=Pws p m t b)\/(base<b/\L.length<p^m-1)))
   (λσ _=>b-mI σ 3) ⟨yab hl0 _,0,l0,none,hl0,rfl,[],yaa,.inr ⟨hbp,by show 0<p^m-1;lia⟩⟩ ?_
  rintro σ H1 ⟨s1,bs,pa,s4,npa,rfl,L,ePa,hL⟩;refine⟨_,rfl,pa,_,rfl,.inl (SqL.of ePa),?_⟩;refine⟨_,rfl,_,_,rfl,rfl,_,_,rfl,rfl,_,rfl,?_⟩;rw[xA0];refine ite2 (λc=>?_) (λc=>?_)
  ·have c':L.length<p^m-1:=by have:=xAj c;lia
   have hlt:bs<b:=by
    rcases hL with⟨rfl,rfl⟩|h
    ·rw[zdC]at c';lia
    ·exact h.1
   refine⟨λσ' H'=>Same H H'/\∃pa s4,H pa=none/\σ'=[some (.ref fa),some (Vn (p^m)),some (.ref pa),some (Vn (bs+1)),s4,none]/\∃L:List Nat,H' pa=some (.lst (L.map Vn))/\((bs+1=b/\L=Pws p m t b)\/(bs+1<b/\L.length<p^m-1)),?_,?_⟩
   ·rintro σ' H' ⟨s2,pa2,s5,n2,rfl,L2,e2,h2⟩;refine⟨_,?_,rfl,s2,bs+1,pa2,s5,n2,rfl,L2,e2,h2⟩;show b-(bs+1)<b-bs;lia
   refine⟨_,rfl,_,_,rfl,rfl,?_⟩;refine⟨szl 1,λl1 hl1=>?_⟩;refine⟨_,rfl,_,_,rfl,rfl,_,_,_,rfl,?_⟩;have n1:H l1=none:=by
    cases e:H l1 with
    |none=>rfl
    |some o=>rw[s1 _ _ e]at hl1;cases hl1
   have hb1:bs+1<p^m:=by lia
   have nfa:fa≠l1:=yaf hf n1;refine zaL (λσ H'=>yar l1 l1 H1 H'/\∃k,1<=k/\k<=p^m-1/\σ=[some (.ref fa),some (Vn (p^m)),some (.ref l1),some (Vn (bs+1)),some (Vn (pw p m t (bs+1) k)),none]/\H' l1=some (.lst (((List.range k).map (pw p m t (bs+1))).map Vn))/\∀i,0<i->i<k->pw p m t (bs+1) i≠1)
    (λ_ H'=>p^m-zdk H' l1) ⟨Same.x (yab hl1 _),1,by lia,by lia,?_,yaa,λi h1 h2=>by lia⟩ ?_
   ·rw[ybR hp hm hb1];rfl
   rintro σ H2 ⟨sx2,k,hk1,hk2,rfl,e2,hne⟩;have hlen:zdk H2 l1=k:=by rw[zbN e2];simp
   refine⟨_,rfl,rfl,_,rfl,?_⟩;refine ite2 (λc=>?_) (λc=>?_)
   ·have hk:pw p m t (bs+1) k≠1:=by
     intro e;rw[e]at c;exact absurd c (by decide)
    have hk3:k<p^m-1:=by
     rcases xAS k (p^m-1) with h|h
     ·exact h
     ·have:k=p^m-1:=by lia
      rw[this]at hk;exact absurd (G.fermat (by lia) hb1) hk
    have hf2:H2 fa=some (.tup [Vn p,Vn m,Vn t]):=sx2 _ _ nfa nfa (s1 _ _ hf);have e3:((List.range k).map (pw p m t (bs+1))).map Vn++[Vn (pw p m t (bs+1) k)]=((List.range (k+1)).map (pw p m t (bs+1))).map Vn:=by
     rw[xBd,xAe,xAe];rfl
    refine⟨λσ' H'=>yar l1 l1 H1 H'/\σ'=[some (.ref fa),some (Vn (p^m)),some (.ref l1),some (Vn (bs+1)),some (Vn (pw p m t (bs+1) (k+1))),none]/\H' l1=some (.lst (((List.range (k+1)).map (pw p m t (bs+1))).map Vn)),?_,?_⟩
    ·rintro σ' H' ⟨a1,rfl,a3⟩;have hl2:zdk H' l1=k+1:=by rw[zbN a3];simp
     refine⟨_,?_,rfl,a1,k+1,by lia,by lia,rfl,a3,λi h1 h2=>?_⟩
     ·show p^m-zdk H' l1<p^m-zdk H2 l1;rw[hl2,hlen];lia
     ·rcases xAS i k with h|h
      ·exact hne i h1 h
      ·rw[show i=k by lia];exact hk
    refine⟨_,rfl,.inl ⟨rfl,_,SqL.of e2⟩,_,rfl,?_⟩;refine⟨l1,_,_,rfl,rfl,e2,by simp only[xA0,xAr];exact yao (by lia),?_⟩;rw[e3];have s3:yar l1 l1 H1 (upd H2 l1 (.lst (((List.range (k+1)).map (pw p m t (bs+1))).map Vn))):=yfM sx2;refine⟨_,rfl,_,rfl,_,rfl,fa,p,m,t,pw p m t (bs+1) k,bs+1,rfl,SqT.of (by rw[yag nfa];exact hf2),hp,hm,hpm,ht,zaS hp hm _ _,hb1,λr H4 s4' br hr=>?_⟩;have e:=yb4 hp hm br hr;subst e;exact⟨s3.trans (Same.x s4'),rfl,s4' _ _ yaa⟩
   ·have hk:pw p m t (bs+1) k=1:=by
     rcases Nat.decEq (pw p m t (bs+1) k) 1 with h|h
     ·exfalso
      refine c ?_;rw[xBt];rfl;intro e;injection e with e;exact h (by lia)
     ·exact h
    refine⟨(s1.trans (zdB (sx2) hl1)),l1,_,n1,rfl,_,e2,?_⟩;rcases xAS (bs+1) b with h|h
    ·refine .inr ⟨h,?_⟩;obtain⟨i,i0,i1,ie⟩:=Pb.low (bs+1) (by lia) h;simp only[xA0,xAr];rcases xAS i k with h3|h3
     ·exact absurd ie (hne i i0 h3)
     ·lia
    ·have hbb:bs+1=b:=by lia
     refine .inl ⟨hbb,?_⟩;rw[hbb]at hk ⊢;have:k=p^m-1:=by
      rcases xAS k (p^m-1) with h3|h3
      ·exact absurd hk (Pb.min k (by lia) h3)
      ·lia
     rw[this];rfl
  ·have c':¬ L.length<p^m-1:=by
    intro h;exact c (xAG (by lia))
   rcases hL with⟨rfl,rfl⟩|h
   ·exact hD _ _ ⟨s1,pa,s4,npa,ePa,rfl⟩
   ·exact absurd h.2 c'
theorem zf8{fa pa la:Addr}{p m:Nat}:valV (tabD fa pa la p m) (.inr "p")=some (Vn p):=rfl
theorem zhN{fa pa la:Addr}{p m:Nat}:valV (tabD fa pa la p m) (.inr "m")=some (Vn m):=rfl
theorem zcq{fa pa la:Addr}{p m:Nat}:valV (tabD fa pa la p m) (.inr "many")=some (Vn (p^m)):=rfl
theorem yc6{fa pa la:Addr}{p m:Nat}:valV (tabD fa pa la p m) (.inr "powers")=some (.ref pa):=rfl
theorem zdt{fa pa la:Addr}{p m:Nat}:valV (tabD fa pa la p m) (.inr "logs")=some (.ref la):=rfl
theorem yfS{fa pa la:Addr}{p m:Nat}:valV (tabD fa pa la p m) (.inr "field")=some (.ref fa):=rfl
theorem Tab.get{H:Hp}{tb fa pa la:Addr}{p m t b:Nat}(T:Tab H tb fa pa la p m t b){x:Str}{v:V}(h:valV (tabD fa pa la p m) (.inr x)=some v):DGet H tb (.str x) (some v):=by
 rw[<-h];exact DGet.k (k:=.inr x) T.d
theorem Tab.log{H:Hp}{tb fa pa la:Addr}{p m t b:Nat}(T:Tab H tb fa pa la p m t b){i:Nat}(h:i<p^m-1):DGet H la (Vn (pw p m t b i)) (some (Vn i)):=by
 have e:valV (Logs p m t b) (.inl ((pw p m t b i:Nat):Int))=some (Vn i):=by
  unfold Logs;refine yfm _ _ rfl (λi j hi hj e=>T.good.inj T.prim i j hi hj ?_) i h;injection e with e;lia
 rw[<-e];exact DGet.k (k:=.inl ((pw p m t b i:Nat):Int)) T.l
theorem zhO(x y i:Nat):dg 2 i (x ^^^ y)=(dg 2 i x+dg 2 i y)%2:=by
 have e:∀z,dg 2 i z=(z.testBit i).toNat:=λz=>by unfold dg;rw[Nat.toNat_testBit]
 rw[e,e,e,Nat.testBit_xor];cases x.testBit i <;> cases y.testBit i <;> rfl
theorem zhk:∀x:Nat,x<64->∀y:Nat,y<64->Builtin.bitXor (x:Int) (y:Int)=((x ^^^ y:Nat):Int):=by decide +kernel
theorem ybu(x:Nat):decide (Vn x=V.int 0)=decide (x=0):=decide_eq_decide.mpr ⟨λe=>by injection e with e;lia,λe=>by rw[e];rfl⟩
noncomputable def zdp:Sp:=λvs H Q _=>∃(tb fa pa la:Addr) (p m t b x y:Nat),vs=[.ref tb,Vn x,Vn y]/\Tab H tb fa pa la p m t b/\x<p^m/\y<p^m/\Q (Vn (add p m x y)) H
theorem zbg:yah ["_law_table_here","_law_one","_law_other","_law_p","_law_found","_law_place"] ["_law_table_here","_law_one","_law_other"] (zae zbW):=⟨rfl,rfl,rfl,by decide +kernel,rfl,by decide +kernel,by decide +kernel⟩
theorem zgR(B:Bl mg)(F:Fun K "_law_plus" "_law_plus" zbW f fd):FnOk P w K mg base CX0 1 f fd ["_law_table_here","_law_one","_law_other"] zdp:=by
 refine F.ok zbg (λvs H Q E h=>?_) (λcdv A outer s H vs Q E hr h=>?_)
 ·obtain⟨tb,fa,pa,la,p,m,t,b,x,y,rfl,_⟩:=h;rfl
 obtain⟨tb,fa,pa,la,p,m,t,b,x,y,rfl,T,hx,hy,q⟩:=h;have hp:=T.good.hp;have hm:=T.good.hm;refine⟨_,(@zab _ _ _ _ _ (@yey _ _ 3 4 5 _ _ _ _ _ _ _ _ _ _ _ _ _ _ rfl zbg.nd rfl rfl rfl (by decide) rfl rfl rfl (@zaa _ _ _ _ _ (@zaB _ _ _ _ _ _ (zbq hr) (pv 0) zaH (λ_ _=>rfl)) (@zaa _ _ _ _ _ yac (@zaa _ _ _ _ _ yac zac ⋯) ⋯) ⋯) rfl ⋯) (@zab _ _ _ _ _ (@za3 _ _ _ _ _ _ _ _ (@zai _ _ _ _ _ _ _ _ ya9 (pv 3) yac (yak _)) (@yad _ _ _ (@yaj _ _ _ _ (@zaf _ _ _ _ _ _ _ _ zhY (pv 1) (pv 2)))) zaw) (@zab _ _ _ _ _ (@yaL _ _ _ _ _ _ xAl (@zai _ _ _ _ _ _ _ _ ybU (@zaf _ _ _ _ _ _ _ _ zau (pv 1) (pv 2)) yac (yak _)) (@zab _ _ _ _ _ (@zag _ _ 4 _ _ _ _ zbg.nd rfl (Or.inl rfl) (@zaf _ _ _ _ _ _ _ _ zau (pv 4) (@zaf _ _ _ _ _ _ _ _ zaU (@zaf _ _ _ _ _ _ _ _ yaz (@zaf _ _ _ _ _ _ _ _ zau (pv 1) (pv 2)) (pv 3)) (pv 5))) ⋯ (by trivial)) (@yad _ _ _ (@yey _ _ 1 2 5 _ _ _ _ _ _ _ _ _ _ _ _ _ _ rfl zbg.nd rfl rfl rfl (by decide) rfl rfl rfl (@zaa _ _ _ _ _ (@zaf _ _ _ _ _ _ _ _ ycz (pv 1) (pv 3)) (@zaa _ _ _ _ _ (@zaf _ _ _ _ _ _ _ _ ycz (pv 2) (pv 3)) (@zaa _ _ _ _ _ (@zaf _ _ _ _ _ _ _ _ zaU (pv 5) (pv 3)) zac ⋯) ⋯) ⋯) rfl ⋯)))) (@yad _ _ _ (@yaj _ _ _ _ (pv 4)))))),?_⟩;refine⟨_,rfl,tb,_,rfl,T.get zf8,_,_,_,rfl,?_⟩;refine⟨_,rfl,rfl,_,rfl,?_⟩;refine ite2 (λc=>?_) (λc=>?_)
 ·have hp2:p=2:=by
   have e:=xAj c;injection e with e;lia
  subst hp2;refine⟨_,rfl,_,rfl,_,_,rfl,rfl,?_⟩;have e:V.int (Builtin.bitXor (x:Int) (y:Int))=Vn (add 2 m x y):=by
   show V.int _=V.int _;congr 1;rw[zhk x (by have:=T.good.hq;lia) y (by have:=T.good.hq;lia)];congr 1;exact yeW hp hm hx hy λi=>zhO x y i
  show Q (V.int (Builtin.bitXor (x:Int) (y:Int))) _;rw[e];exact q
 ·refine zaL (λσ H'=>H'=H/\∃(k o u tt:Nat),σ=[some (.ref tb),some (Vn o),some (Vn u),some (Vn p),some (Vn tt),some (Vn (p^k))]/\o=x/p^k/\u=y/p^k/\tt<p^k/\∀i,i<k->dg p i tt=(dg p i x+dg p i y)%p)
   (λσ _=>mI σ 1+mI σ 2) ⟨rfl,0,x,y,0,rfl,by simp,by simp,by simp,λi hi=>absurd hi (Nat.not_lt_zero _)⟩ ?_
  rintro σ H' ⟨rfl,k,o,u,tt,rfl,ho,hu,ht,hd⟩;have hp64:=p_le hp hm T.good.hq;have pk:0<p^k:=xB1 (by lia);refine⟨_,rfl,_,rfl,_,_,rfl,rfl,_,_,rfl,rfl,_,rfl,?_⟩;refine ite2 (λc=>?_) (λc=>?_)
  ·have c':0<o+u:=by have:=xAj c;lia
   refine⟨λσ' H''=>H''=H'/\σ'=[some (.ref tb),some (Vn (o/p)),some (Vn (u/p)),some (Vn p),some (Vn (tt+(o+u)%p*p^k)),some (Vn (p^k*p))],?_,?_⟩
   ·rintro σ' H'' ⟨rfl,rfl⟩;have l1:o/p<=o:=Nat.div_le_self _ _;have l2:u/p<=u:=Nat.div_le_self _ _;have l3:o/p<o\/u/p<u:=by
     rcases xAZ o with h|h
     ·exact .inr (Nat.div_lt_self (by lia) (by lia))
     ·exact .inl (Nat.div_lt_self h (by lia))
    refine⟨_,?_,rfl,rfl,k+1,o/p,u/p,tt+(o+u)%p*p^k,rfl,?_,?_,?_,λi hi=>?_⟩
    ·show o/p+u/p<o+u;lia
    ·rw[ho,xAD,xBk]
    ·rw[hu,xAD,xBk]
    ·exact yf8 ht (xAR _ (by lia))
    ·rw[yf2 hp ht (xAR _ (by lia))];by_cases e:i=k
     ·rw[if_pos e,ho,hu,e];unfold dg;rw[Nat.add_mod]
     ·rw[if_neg e];exact hd i (by lia)
   ·refine⟨_,rfl,_,rfl,_,rfl,_,_,rfl,rfl,_,rfl,_,_,rfl,rfl,?_⟩;refine⟨by show(0:Int)<p;lia,_,rfl,_,_,rfl,rfl,?_⟩;have hmm:(o+u)%p<p:=xAR _ (by lia);refine⟨.inl ⟨by show -(2^64:Int)<(((o+u)%p:Nat):Int);lia,by show(((o+u)%p:Nat):Int)<2^64;lia⟩,_,_,rfl,rfl,?_⟩;refine⟨_,rfl,_,rfl,_,_,rfl,rfl,⟨by show(0:Int)<p;lia,by show(p:Int)<2^64;lia⟩,?_⟩;refine⟨_,rfl,_,rfl,_,_,rfl,rfl,⟨by show(0:Int)<p;lia,by show(p:Int)<2^64;lia⟩,?_⟩;refine⟨_,rfl,_,rfl,_,_,rfl,rfl,.inr ⟨by show -(2^64:Int)<p;lia,by show(p:Int)<2^64;lia⟩,?_⟩;exact⟨_,_,_,rfl,rfl,rfl⟩
  ·have c':o=0/\u=0:=by
    have:¬ (0:Int)<(o:Int)+(u:Int):=λh=>c (xAG h)
    lia
   refine⟨_,rfl,?_⟩;have e:tt=add p m x y:=yeW hp hm hx hy λi=>by
    by_cases e:i<k
    ·exact hd i e
    ·have hx:x<p^k:=by
      rcases xAS x (p^k) with h|h
      ·exact h
      ·have:=Nat.div_pos h pk;lia
     have hy:y<p^k:=by
      rcases xAS y (p^k) with h|h
      ·exact h
      ·have:=Nat.div_pos h pk;lia
     rw[zar hp ht (by lia),zar hp hx (by lia),zar hp hy (by lia)];simp
   subst e;exact q
noncomputable def zbD:Sp:=λvs H Q _=>∃(tb fa pa la:Addr) (p m t b x y:Nat),vs=[.ref tb,Vn x,Vn y]/\Tab H tb fa pa la p m t b/\x<p^m/\y<p^m/\Q (Vn (mul p m t x y)) H
theorem zb2:yah ["_law_table_here","_law_one","_law_other","_law_at"] ["_law_table_here","_law_one","_law_other"] (zae zbJ):=⟨rfl,rfl,rfl,by decide +kernel,rfl,by decide +kernel,by decide +kernel⟩
theorem zfP(B:Bl mg)(F:Fun K "_law_times" "_law_times" zbJ f fd):FnOk P w K mg base CX0 1 f fd ["_law_table_here","_law_one","_law_other"] zbD:=by
 refine F.ok zb2 (λvs H Q E h=>?_) (λcdv A outer s H vs Q E hr h=>?_)
 ·obtain⟨tb,fa,pa,la,p,m,t,b,x,y,rfl,_⟩:=h;rfl
 obtain⟨tb,fa,pa,la,p,m,t,b,x,y,rfl,T,hx,hy,q⟩:=h;have hp:=T.good.hp;have hm:=T.good.hm;refine⟨_,(@zab _ _ _ _ _ (@za3 _ _ _ _ _ _ _ _ (@PW.pt _ _ _ (@zfu _ _ _ _ _ _ _ (@zai _ _ _ _ _ _ _ _ ya9 (pv 1) yac (yak _)) (@zdS _ _ _ _ (@zai _ _ _ _ _ _ _ _ ya9 (pv 2) yac (yak _))))) (@yad _ _ _ (@yaj _ _ _ _ yac)) zaw) (@zab _ _ _ _ _ (@zag _ _ 3 _ _ _ _ zb2.nd rfl (Or.inl rfl) (@zaf _ _ _ _ _ _ _ _ zau (@zaB _ _ _ _ _ _ (zbq hr) (@zaB _ _ _ _ _ _ (zbq hr) (pv 0) zaH (λ_ _=>rfl)) (pv 1) (λ_ _=>rfl)) (@zaB _ _ _ _ _ _ (zbq hr) (@zaB _ _ _ _ _ _ (zbq hr) (pv 0) zaH (λ_ _=>rfl)) (pv 2) (λ_ _=>rfl))) ⋯ (by trivial)) (@yad _ _ _ (@yaj _ _ _ _ (@zan _ _ _ _ _ _ _ zao (@zaB _ _ _ _ _ _ (zbq hr) (pv 0) zaH (λ_ _=>rfl)) (@zaf _ _ _ _ _ _ _ _ yaz (pv 3) (@zaf _ _ _ _ _ _ _ _ yaG (@zaB _ _ _ _ _ _ (zbq hr) (pv 0) zaH (λ_ _=>rfl)) yac)) (λ_ _=>rfl)))))),?_⟩;refine zgT (b1:=decide (x=0)) (b2:=decide (y=0)) (λQ q=>⟨_,rfl,rfl,_,rfl,?_⟩) (λQ q=>⟨_,rfl,rfl,_,rfl,?_⟩) ?_
 ·rw[ybu];exact q
 ·rw[ybu];exact q
 refine ite2 (λc=>?_) (λc=>?_)
 ·have e:mul p m t x y=0:=by
   simp only[Bool.or_eq_true,xBm]at c;rcases c with rfl|rfl
   ·exact zero_mul hp hm _
   ·exact mul_zero hp hm _
  rw[e]at q;exact q
 ·simp only[Bool.or_eq_true,xBm,not_or]at c;obtain⟨i,hi,ei⟩:=T.prim.all x (by lia) hx;obtain⟨j,hj,ej⟩:=T.prim.all y (by lia) hy;have hQ2:=zax hp hm;have hQ:=T.good.hq;have gi:=T.log hi;have gj:=T.log hj;rw[ei]at gi;rw[ej]at gj;refine⟨_,rfl,tb,_,rfl,T.get zdt,_,rfl,la,_,rfl,gi,?_⟩;refine⟨_,rfl,tb,_,rfl,T.get zdt,_,rfl,la,_,rfl,gj,_,_,rfl,rfl,?_⟩;refine⟨_,rfl,tb,_,rfl,T.get yc6,?_⟩;refine⟨_,rfl,_,rfl,tb,_,rfl,T.get zcq,_,_,rfl,rfl,_,_,rfl,rfl,by show(0:Int)<((p^m:Nat):Int)-1;lia,?_⟩;have ek:((i:Int)+(j:Int))%(((p^m:Nat):Int)-1)=(((i+j)%(p^m-1):Nat):Int):=by
   rw[Int.natCast_emod,Int.natCast_add,Int.natCast_sub (by lia)];rfl
  have hk:(i+j)%(p^m-1)<p^m-1:=xAR _ (by lia);refine⟨pa,_,_,Vn (pw p m t b ((i+j)%(p^m-1))),rfl,rfl,SqL.of T.w,?_,?_⟩
  ·show atI _ (((i:Int)+(j:Int))%(((p^m:Nat):Int)-1))=_;rw[ek];exact zaN (by unfold Pws;rw[xA8,xA8,xAL hk];rfl)
  ·have e:pw p m t b ((i+j)%(p^m-1))=mul p m t x y:=by
    rw[T.good.pw_mod T.prim.pos T.prim.lt,ybo hp hm,ei,ej]
   rw[e];exact q
end
end My
end
section
-- text: P9
namespace My
open PySem L2 Dg
theorem zav{ws:List Nat}{i:Nat}(h:i<ws.length):(ws.map Vn)[i]?=some (Vn (ws.getD i 0)):=by
 rw[xA8,xA5 h];simp[List.getD,h]
theorem yaO{xs:List Nat}{n i:Nat}(h:∀x∈xs,x<n)(hi:i<xs.length):xs.getD i 0<n:=by
 have e:xs.getD i 0=xs[i]:=by simp[List.getD,hi]
 rw[e];exact h _ (xBp hi)
theorem ybf{H H':Hp}{l:Addr}{o:HO}(s:Same H H')(h:H l=none):Same H (upd H' l o):=λb u e=>by rw[yag (yaf e h)];exact s _ _ e
theorem mapI(ns:List Nat):(ns.map λn:Nat=>(n:Int)).map V.int=ns.map Vn:=by rw[List.map_map];rfl
structure ygx(pu g tb fa pa la:Addr):Prop where
 a1:tb≠pu
 a2:tb≠g
 b1:fa≠pu
 b2:fa≠g
 c1:pa≠pu
 c2:pa≠g
 d1:la≠pu
 d2:la≠g
theorem Tab.x{H H':Hp}{pu g tb fa pa la:Addr}{p m t b:Nat}(T:Tab H tb fa pa la p m t b)(a:ygx pu g tb fa pa la)(s:yar pu g H H'):Tab H' tb fa pa la p m t b :=
 ⟨s _ _ a.a1 a.a2 T.d,s _ _ a.b1 a.b2 T.f,s _ _ a.c1 a.c2 T.w,s _ _ a.d1 a.d2 T.l,T.good,T.prim⟩
noncomputable def trim:List Nat->List Nat
 | []=>[]
 |x::xs=>match trim xs with
  | []=>if x=0 then [] else [x]
  |r=>x::r
theorem zb6:∀l:List Nat,trim (l++[0])=trim l
 | []=>rfl
 |x::xs=>by
  show(match trim (xs++[0]) with | []=>_|r=>_)=(match trim xs with | []=>_|r=>_)
  rw[zb6 xs]
theorem zcS{x:Nat}(h:x≠0):∀l:List Nat,trim (l++[x])=l++[x]
 | []=>by show(if x=0 then [] else [x])=[x];rw[if_neg h]
 |y::xs=>by
  show(match trim (xs++[x]) with | []=>_|r=>_)=y::(xs++[x]);rw[zcS h xs];cases xs <;> rfl
theorem ybN{l:List Nat}{e:Nat}(h:e<l.length):l.take (e+1)=l.take e++[l.getD e 0]:=by
 rw[List.take_add_one,xA5 h];simp[List.getD,h]
theorem yeE:∀l:List Nat,(trim l).length<=l.length
 | []=>xA4 _
 |x::xs=>by
  have ih:=yeE xs;show(match trim xs with | []=>if x=0 then [] else [x]|r=>x::r).length<=xs.length+1;split
  ·split <;> simp
  ·rename_i e;rw[xAO];lia
theorem yct:∀(l:List Nat) (x:Nat),x∈trim l->x∈l
 | [],x,h=>h
 |y::xs,x,h=>by
  have h:x∈(match trim xs with | []=>if y=0 then [] else [y]|r=>y::r):=h;split at h
  ·split at h
   ·simp at h
   ·simp at h;simp[h]
  ·rcases xA9.mp h with h|h
   ·simp[h]
   ·exact xA7 _ (yct xs x h)
theorem yd8:∀l:List Nat,trim (trim l)=trim l
 | []=>rfl
 |x::xs=>by
  have ih:=yd8 xs;cases e:trim xs with
  |nil=>
   have e2:trim (x::xs)=if x=0 then [] else [x]:=by show(match trim xs with | []=>_|r=>_)=_;rw[e]
   rw[e2];by_cases h:x=0
   ·rw[if_pos h];rfl
   ·rw[if_neg h];show(if x=0 then [] else [x])=[x];rw[if_neg h]
  |cons y r=>
   have e2:trim (x::xs)=x::y::r:=by show(match trim xs with | []=>_|r=>_)=_;rw[e]
   rw[e2];rw[e]at ih;show(match trim (y::r) with | []=>_|r=>_)=_;rw[ih]
section
variable {P:Program} {w:World} {K:PySem.W.Frag} {mg:Str->Option Value} {base:Heap} {f:Addr} {fd:FuncData}
theorem ygQ(xs:List V)(e:Nat)(h:e<=xs.length):cutV xs none (some (e:Int))=xs.take e:=by
 have h1:HT.sIx xs.length 0 none=0:=rfl;have h2:HT.sIx xs.length xs.length (some (e:Int))=e:=by
  simp only[HT.sIx];rw[if_neg (by lia)];simp;lia
 unfold cutV;rw[h1,h2,List.drop_zero,Nat.sub_zero]
noncomputable def ydq(K:PySem.W.Frag):Sp:=λvs H Q _=>∃(a:Addr) (ns:List Nat),vs=[.ref a]/\SqL K H a (ns.map Vn)/\ns.length<=1000/\∀r H',Same H H'->H r=none->H' r=some (.tup ((trim ns).map Vn))->Q (.ref r) H'
theorem zcc:yah ["things","end"] ["things"] (zae ycY):=⟨rfl,rfl,rfl,by decide +kernel,rfl,by decide +kernel,by decide +kernel⟩
end
end My
end
section
-- text: PA
namespace My
open PySem L2 Dg
noncomputable def ybA(p m t:Nat)(xs ys:List Nat)(i j:Nat):List Nat:=(List.range (xs.length+ys.length)).map λn=>add p m (ydz p m t xs ys i n) (if i<=n/\n-i<j then mul p m t (xs.getD i 0) (ys.getD (n-i) 0) else 0)
noncomputable def rmul(p m t:Nat)(xs ys:List Nat):List Nat:=trim ((List.range (xs.length+ys.length)).map (conv p m t xs ys))
section
variable {p m t:Nat} (hp:2<=p) (hm:1<=m)
include hp hm
theorem zcH(xs ys:List Nat)(i j:Nat):(ybA p m t xs ys i j).length=xs.length+ys.length:=by simp[ybA]
theorem zfj(xs ys:List Nat):ybA p m t xs ys 0 0=List.replicate (xs.length+ys.length) 0:=by
 unfold ybA;refine xAP (by simp) λn h1 h2=>?_
 simp only[xBq,xBh,List.getElem_replicate];rw[if_neg (by lia)];exact add_zero hp hm (yal hp hm)
theorem yfd(xs ys:List Nat)(i:Nat):ybA p m t xs ys i ys.length=ybA p m t xs ys (i+1) 0:=by
 unfold ybA;refine xAy λn _=>?_
 rw[if_neg (show ¬ (i+1<=n/\n-(i+1)<0) by lia),add_zero hp hm (ycw hp hm _ _ _ _)];show _=add p m (ydz p m t xs ys i n) _;congr 1;dsimp only;by_cases h:i<=n
 ·rw[if_pos h];by_cases h2:n-i<ys.length
  ·rw[if_pos ⟨h,h2⟩]
  ·rw[if_neg (by lia),yax (xs:=ys) (by lia),mul_zero hp hm]
 ·rw[if_neg (by lia),if_neg h]
theorem zf1(xs ys:List Nat):ybA p m t xs ys xs.length 0=(List.range (xs.length+ys.length)).map (conv p m t xs ys):=by
 unfold ybA;refine xAy λn _=>?_
 rw[if_neg (by lia),add_zero hp hm (ycw hp hm _ _ _ _),zfy hp hm]
theorem yfO{xs ys:List Nat}{i j:Nat}(hi:i<xs.length)(hj:j<ys.length):(ybA p m t xs ys i j).getD (i+j) 0=ydz p m t xs ys i (i+j):=by
 unfold ybA;rw[xAf,xA8,xAL (by lia)];show add p m _ (if _ then _ else 0)=_;rw[if_neg (by lia),add_zero hp hm (ycw hp hm _ _ _ _)]
theorem zfM{xs ys:List Nat}{i j:Nat}(hi:i<xs.length)(hj:j<ys.length):(ybA p m t xs ys i j).set (i+j) (add p m (ydz p m t xs ys i (i+j)) (mul p m t (xs.getD i 0) (ys.getD j 0)))=ybA p m t xs ys i (j+1):=by
 refine xAP (by simp[zcH hp hm]) λn h1 h2=>?_
 rw[List.getElem_set];by_cases e:i+j=n
 ·subst e;rw[if_pos rfl];simp only[ybA,xBq,xBh];rw[if_pos (by lia),show i+j-i=j by lia]
 ·rw[if_neg e];simp only[ybA,xBq,xBh];by_cases h:i<=n/\n-i<j
  ·rw[if_pos h,if_pos (by lia)]
  ·rw[if_neg h,if_neg (by lia)]
end
theorem yem(l:List Nat)(i x:Nat):(l.map Vn).set i (Vn x)=(l.set i x).map Vn:=by rw[List.map_set]
theorem zdL{n j:Nat}(h:j<n):ixN n (j:Int)=some j:=by unfold ixN;rw[if_pos (by lia),if_pos (by lia)];rfl
theorem zcu(n:Nat):(List.replicate n [V.int 0]).flatten=(List.replicate n 0).map Vn:=by
 induction n with
 |zero=>rfl
 |succ n ih=>rw[xAH,List.flatten_cons,ih,xAH];rfl
section
variable {P:Program} {w:World} {K:PySem.W.Frag} {mg:Str->Option Value} {base:Heap} {f:Addr} {fd:FuncData}
noncomputable def yd4(K:PySem.W.Frag):Sp:=λvs H Q _=>∃(fa a b:Addr) (p m t:Nat) (xs ys:List Nat),vs=[.ref fa,.ref a,.ref b]/\Fld K H fa p m t/\Good p m t/\SqT K H a (xs.map Vn)/\SqT K H b (ys.map Vn)/\xs.length<=200/\ys.length<=200/\(∀x∈xs,x<p^m)/\(∀y∈ys,y<p^m)/\
 ∀r H',Same H H'->H r=none->H' r=some (.tup ((rmul p m t xs ys).map Vn))->Q (.ref r) H'
theorem yaP:yah ["field","one","other","product","i","a","j","b"] ["field","one","other"] (zae zbV):=⟨rfl,rfl,rfl,by decide +kernel,rfl,by decide +kernel,by decide +kernel⟩
theorem yfI(B:Bl mg)(xC3:Has P w K mg base 1 "plus" ["field","one","other"] (zcb K))(xC9:Has P w K mg base 3 "times" ["field","one","other"] (ybv K))(xCb:Has P w K mg base 1 "trimmed" ["things"] (ydq K))(F:Fun K "row_times" "row_times" zbV f fd):FnOk P w K mg base CX0 4 f fd ["field","one","other"] (yd4 K):=by
 refine F.ok yaP (λvs H Q E h=>?_) (λcdv A outer s H vs Q E hr h=>?_)
 ·obtain⟨fa,a,b,p,m,t,xs,ys,rfl,_⟩:=h;rfl
 obtain⟨fa,a,b,p,m,t,xs,ys,rfl,hF,G,ha,hb,lx,ly,hx,hy,q⟩:=h;have hp:=G.hp;have hm:=G.hm;have hp2:=p_le hp hm G.hq;refine⟨_,(@zab _ _ _ _ _ (@zag _ _ 3 _ _ _ _ yaP.nd rfl (Or.inl rfl) (@zaf _ _ _ _ _ _ _ _ ycn (@yaA _ _ _ _ (@zaa _ _ _ _ _ yac zac ⋯)) (@zaf _ _ _ _ _ _ _ _ zau (@zal _ _ _ _ _ _ _ _ _ zaj rfl (B "len" (by decide)) xAT (@zaa _ _ _ _ _ (pv 1) zac ⋯) (by decide) (by decide) ⋯ ⋯) (@zal _ _ _ _ _ _ _ _ _ zaj rfl (B "len" (by decide)) xAT (@zaa _ _ _ _ _ (pv 2) zac ⋯) (by decide) (by decide) ⋯ ⋯))) ⋯ (by trivial)) (@zab _ _ _ _ _ (@yaC _ _ _ _ _ _ _ _ xAl rfl (@ybC _ _ _ _ _ _ _ _ rfl (B "enumerate" (by decide)) (@zaa _ _ _ _ _ (pv 1) zac ⋯) ⋯) (@za2 _ _ _ _ _ _ rfl (@zah _ _ _ _ _ (@yae _ _ 4 _ yaP.nd rfl (Or.inl rfl) (by trivial)) (@zah _ _ _ _ _ (@yae _ _ 5 _ yaP.nd rfl (Or.inl rfl) (by trivial)) zaE ⋯) ⋯) ⋯ ⋯) (@yad _ _ _ (@yaC _ _ _ _ _ _ _ _ xAl rfl (@ybC _ _ _ _ _ _ _ _ rfl (B "enumerate" (by decide)) (@zaa _ _ _ _ _ (pv 2) zac ⋯) ⋯) (@za2 _ _ _ _ _ _ rfl (@zah _ _ _ _ _ (@yae _ _ 6 _ yaP.nd rfl (Or.inl rfl) (by trivial)) (@zah _ _ _ _ _ (@yae _ _ 7 _ yaP.nd rfl (Or.inl rfl) (by trivial)) zaE ⋯) ⋯) ⋯ ⋯) (@yad _ _ _ (@yaU _ _ _ _ _ _ (@zad _ _ _ _ _ _ _ _ _ _ _ xC3 hr (by decide) rfl (@zaa _ _ _ _ _ (pv 0) (@zaa _ _ _ _ _ (@zan _ _ _ _ _ _ _ zao (pv 3) (@zaf _ _ _ _ _ _ _ _ zau (pv 4) (pv 6)) (λ_ _=>rfl)) (@zaa _ _ _ _ _ (@zad _ _ _ _ _ _ _ _ _ _ _ xC9 hr (by decide) rfl (@zaa _ _ _ _ _ (pv 0) (@zaa _ _ _ _ _ (pv 5) (@zaa _ _ _ _ _ (pv 7) zac ⋯) ⋯) ⋯) (by decide) ⋯ ⋯) zac ⋯) ⋯) ⋯) (by decide) ⋯ ⋯) (@zb5 _ _ _ _ _ _ _ (pv 3) (@zaf _ _ _ _ _ _ _ _ zau (pv 4) (pv 6)) yaW (by intro _;rfl)) ⋯ ⋯ ⋯)) (by intro _;rfl))) (by intro _;rfl)) (@yad _ _ _ (@yaj _ _ _ _ (@zad _ _ _ _ _ _ _ _ _ _ _ xCb hr (by decide) rfl (@zaa _ _ _ _ _ (pv 3) zac ⋯) (by decide) ⋯ ⋯))))),?_⟩;refine⟨szl 1,λl0 hl0=>?_⟩;have s0:=yab hl0 (.lst [V.int 0]);refine⟨_,rfl,a,_,rfl,.inr (Same.tup s0 ha),_,rfl,b,_,rfl,.inr (Same.tup s0 hb),_,_,rfl,rfl,?_⟩;have eN:(((xs.map Vn).length:Nat):Int)+(((ys.map Vn).length:Nat):Int)=((xs.length+ys.length:Nat):Int):=by simp
 refine⟨l0,_,_,rfl,rfl,yaa,by rw[eN];lia,by rw[eN];lia,by rw[eN,xAs];exact szl _ (by simp;lia),λl hl=>?_⟩;rw[eN,xAs,zcu,<-zfj (t:=t) hp hm];have nl:=s0.free hl;have s1:=ybf (l:=l) (o:=.lst ((ybA p m t xs ys 0 0).map Vn)) s0 nl;refine⟨_,rfl,true,a,rfl,⟨_,Same.tup s1 ha⟩,?_⟩;refine yaM (ya1 (b:=true) (xs:=xs.map Vn)) (λi σ H'=>Same H H'/\H' l=some (.lst ((ybA p m t xs ys i 0).map Vn))/\∃s4 s5 s6 s7,σ=[some (.ref fa),some (.ref a),some (.ref b),some (.ref l),s4,s5,s6,s7]) ⟨s1,yaa,none,none,none,none,rfl⟩ (λi σ H' _ h=>Same.tup h.1 ha) ?_ ?_
 ·rintro i z σ H1 H2 hi ⟨sm,el,s4,s5,s6,s7,rfl⟩ ⟨T,u,rfl,eu,hT,rfl⟩;rw[xA0]at hi;rw[zav hi]at eu;cases eu;have sT:=yab hT (.tup [.int (i:Int),Vn (xs.getD i 0)]);refine⟨T,_,rfl,SqT.of yaa,rfl,_,_,rfl,_,_,rfl,rfl,?_⟩;refine⟨_,rfl,true,b,rfl,⟨_,Same.tup (sm.trans sT) hb⟩,?_⟩;refine yaM (ya1 (b:=true) (xs:=ys.map Vn)) (λj σ H'=>Same H H'/\H' l=some (.lst ((ybA p m t xs ys i j).map Vn))/\∃s6 s7,σ=[some (.ref fa),some (.ref a),some (.ref b),some (.ref l),some (Vn i),some (Vn (xs.getD i 0)),s6,s7]) ⟨sm.trans sT,sT _ _ el,_,_,rfl⟩ (λj σ H' _ h=>Same.tup h.1 hb) ?_ ?_
  ·rintro j z σ H3 H4 hj ⟨sm3,el3,s6,s7,rfl⟩ ⟨T2,u,rfl,eu,hT2,rfl⟩;rw[xA0]at hj;rw[zav hj]at eu;cases eu;have sT2:=yab hT2 (.tup [.int (j:Int),Vn (ys.getD j 0)]);have sm4:=sm3.trans sT2;refine⟨T2,_,rfl,SqT.of yaa,rfl,_,_,rfl,_,_,rfl,rfl,?_⟩;have el4:=sT2 _ _ el3;refine⟨_,rfl,_,rfl,_,rfl,_,rfl,_,_,rfl,rfl,?_⟩;refine⟨l,_,((i+j:Nat):Int),Vn (ydz p m t xs ys i (i+j)),rfl,rfl,SqL.of el4,?_,?_⟩
   ·refine zaN ?_;rw[zav (by rw[zcH hp hm];lia),yfO hp hm hi hj]
   refine⟨_,rfl,_,rfl,_,rfl,fa,p,m,t,xs.getD i 0,ys.getD j 0,rfl,Same.tup sm4 hF,hp,hm,G.hq,G.top,yaO hx hi,yaO hy hj,λr br h1=>?_⟩;cases yb4 hp hm br h1;refine⟨fa,p,m,t,ydz p m t xs ys i (i+j),mul p m t (xs.getD i 0) (ys.getD j 0),rfl,Same.tup sm4 hF,hp,hp2,λr h2=>?_⟩;cases yeW hp hm (ycw hp hm _ _ _ _) (zaA hp hm _ _) h2;refine⟨_,rfl,_,rfl,_,rfl,_,_,rfl,rfl,?_⟩;refine⟨l,_,((i+j:Nat):Int),i+j,rfl,rfl,el4,?_,?_⟩
   ·rw[xA0,zcH hp hm];exact zdL (by lia)
   ·rw[yem,zfM hp hm hi hj];exact⟨ybf sm4 nl,yaa,_,_,rfl⟩
  ·rw[xA0];rintro σ H3 ⟨sm3,el3,s6,s7,rfl⟩;rw[yfd hp hm]at el3;exact⟨sm3,el3,_,_,_,_,rfl⟩
 ·rw[xA0];rintro σ H1 ⟨sm,el,s4,s5,s6,s7,rfl⟩;rw[zf1 hp hm]at el;refine⟨_,rfl,l,_,rfl,SqL.of el,by simp;lia,λr H2 s2 nr er=>?_⟩;exact q r _ (sm.trans s2) (sm.free nr) er
end
end My
end
section
-- text: PB
namespace My
open PySem L2 Dg
theorem zge:∀l:List Nat,(∀i,l.getD i 0=0)->trim l=[]
 | [],_=>rfl
 |x::xs,h=>by
  have h0:x=0:=h 0;show(match trim xs with | []=>if x=0 then [] else [x]|r=>x::r)=[]
  rw[zge xs λi=>by have:=h (i+1);simpa using this,if_pos h0]
theorem zd4:∀(l:List Nat) (i:Nat),(trim l).getD i 0=l.getD i 0
 | [],i=>rfl
 |x::xs,i=>by
  have ih:=zd4 xs;show(match trim xs with | []=>if x=0 then [] else [x]|r=>x::r).getD i 0=_;cases e:trim xs with
  |nil=>
   rw[e]at ih;cases i with
   |zero=>
    by_cases h:x=0
    ·subst h;rfl
    ·dsimp only;rw[if_neg h];rfl
   |succ i=>
    have:=ih i;by_cases h:x=0
    ·subst h;simpa using this
    ·dsimp only;rw[if_neg h];simpa using this
  |cons y r=>
   rw[e]at ih;cases i with
   |zero=>rfl
   |succ i=>have:=ih i;simpa using this
theorem zdQ{n:Nat}{f:Nat->Nat}(i:Nat):((List.range n).map f).getD i 0=if i<n then f i else 0:=by
 rw[xAf,xA8];by_cases h:i<n
 ·rw[xAL h,if_pos h];rfl
 ·rw[List.getElem?_eq_none (by simpa using h),if_neg h];rfl
noncomputable def wid(xs:List Nat)(n:Nat):List Nat:=xs++List.replicate (n-xs.length) 0
theorem ydo{xs:List Nat}{n:Nat}(h:xs.length<=n):(wid xs n).length=n:=by simp[wid];lia
theorem ygU{xs:List Nat}{n q:Nat}(hq:0<q)(h:∀x∈xs,x<q):∀x∈wid xs n,x<q:=by
 intro x hx;rcases xAE.mp hx with h1|h1
 ·exact h x h1
 ·rw[(List.mem_replicate.mp h1).2];exact hq
section
variable {p m t:Nat} (hp:2<=p) (hm:1<=m)
include hp hm
theorem zdX{x y:Nat}(hx:x<p^m)(hy:y<p^m):add p m x (mul p m t (p-1) y)=sub p m x y:=by
 refine ybL hp (zbb hp hm _ _) (zbS hp hm _ _) λi hi=>?_
 rw[ybJ hp hm _ _ i hi,ze3 hp hm _ _ i hi,zbo hp hm _ _ i hi];have e:∀(k:Nat) (Y:Nat->Nat),1<=k->tn m (dgs p t) k (dgs p (p-1)) Y i=(p-1)*Y i:=by
  intro k Y hk;obtain⟨k,rfl⟩:∃k',k=k'+1:=⟨k-1,by lia⟩
  show dg p 0 (p-1)*Y i+tn m (dgs p t) k (λj=>dg p (j+1) (p-1)) (zaF m (dgs p t) Y) i=_;rw[zcf _ _ _ _ (λj=>by rw[ybw,Nat.div_eq_of_lt (by lia),zbf]),zbh,Nat.mod_eq_of_lt (by lia),Nat.add_zero]
 rw[e m _ hm,Nat.add_mod_mod]
end
section
variable {P:Program} {w:World} {K:PySem.W.Frag} {mg:Str->Option Value} {base:Heap} {f:Addr} {fd:FuncData}
noncomputable def ygY(K:PySem.W.Frag):Sp:=λvs H Q _=>∃(a:Addr) (xs:List Nat) (n:Nat),vs=[.ref a,Vn n]/\SqT K H a (xs.map Vn)/\xs.length<=n/\n<=1000/\∀r H',Same H H'->H r=none->H' r=some (.lst ((wid xs n).map Vn))->Q (.ref r) H'
theorem zfc:yah ["row","many"] ["row","many"] (zae ycZ):=⟨rfl,rfl,rfl,by decide +kernel,rfl,by decide +kernel,by decide +kernel⟩
theorem yh2(B:Bl mg)(F:Fun K "widened" "widened" ycZ f fd):FnOk P w K mg base CX0 1 f fd ["row","many"] (ygY K):=by
 refine F.ok zfc (λvs H Q E h=>?_) (λcdv A outer s H vs Q E hr h=>?_)
 ·obtain⟨a,xs,n,rfl,_⟩:=h;rfl
 obtain⟨a,xs,n,rfl,ha,hl,hn,q⟩:=h;refine⟨_,(@yad _ _ _ (@yaj _ _ _ _ (@zaf _ _ _ _ _ _ _ _ zc8 (@zap _ _ _ _ _ _ _ _ _ zbF rfl (B "list" (by decide)) za0 (@zaa _ _ _ _ _ (pv 0) zac ⋯) (by decide) (by decide) ⋯ ⋯) (@zaf _ _ _ _ _ _ _ _ ycn (@yaA _ _ _ _ (@zaa _ _ _ _ _ yac zac ⋯)) (@zaf _ _ _ _ _ _ _ _ yaG (pv 1) (@zal _ _ _ _ _ _ _ _ _ zaj rfl (B "len" (by decide)) xAT (@zaa _ _ _ _ _ (pv 0) zac ⋯) (by decide) (by decide) ⋯ ⋯)))))),?_⟩;refine⟨_,rfl,a,_,rfl,.inr ha,λl1 hl1=>?_⟩;have s1:=yab hl1 (.lst (xs.map Vn));refine⟨szl 1,λl2 hl2=>?_⟩;have s2:=s1.trans (yab hl2 (.lst [V.int 0]));refine⟨_,rfl,_,rfl,a,_,rfl,.inr (Same.tup s2 ha),_,_,rfl,rfl,?_⟩;have eN:(n:Int)-(((xs.map Vn).length:Nat):Int)=((n-xs.length:Nat):Int):=by rw[xA0];lia
 refine⟨l2,_,_,rfl,rfl,yaa,by rw[eN];lia,by rw[eN];lia,by rw[eN,xAs];exact szl _ (by simp;lia),λl3 hl3=>?_⟩;rw[eN,xAs,zcu];have s3:=yab hl3 (.lst ((List.replicate (n-xs.length) 0).map Vn));refine⟨l1,l3,_,_,rfl,rfl,s3 _ _ ((yab hl2 _) _ _ yaa),yaa,by simp only[xA0,xAq];exact szl _ (by lia),λr hr=>?_⟩;rw[<-xAe];have s4:=s2.trans s3;exact q r _ (s4.trans (yab hr _)) (s4.free hr) yaa
end
end My
end
section
-- text: PC
namespace My
open PySem L2 Dg
section
variable {P:Program} {w:World} {K:PySem.W.Frag} {mg:Str->Option Value} {base:Heap} {f:Addr} {fd:FuncData}
theorem zdu:yah ["_law_table_here","_law_one","_law_many"] ["_law_table_here","_law_one","_law_many"] (zae ybD):=⟨rfl,rfl,rfl,by decide +kernel,rfl,by decide +kernel,by decide +kernel⟩
end
end My
end
section
-- text: PD
namespace My
open PySem L2 Dg
structure Ord(p m t x n:Nat):Prop where
 pos:1<=n
 one:pw p m t x n=1
 min:∀i,0<i->i<n->pw p m t x i≠1
theorem Ord.le{p m t x n k:Nat}(o:Ord p m t x n)(h0:0<k)(h:pw p m t x k=1):n<=k:=by
 rcases xAS k n with h1|h1
 ·exact absurd h (o.min k h0 h1)
 ·exact h1
theorem Ord.uniq{p m t x n k:Nat}(o:Ord p m t x n)(o':Ord p m t x k):n=k:=Nat.le_antisymm (o.le o'.pos o'.one) (o'.le o.pos o.one)
theorem yeM(x:Nat):decide (Vn x=V.int 1)=decide (x=1):=decide_eq_decide.mpr ⟨λe=>by injection e with e;lia,λe=>by rw[e];rfl⟩
section
variable {P:Program} {w:World} {K:PySem.W.Frag} {mg:Str->Option Value} {base:Heap} {f:Addr} {fd:FuncData}
noncomputable def ze6(K:PySem.W.Frag):Sp:=λvs H Q _=>∃(fa:Addr) (p m t x:Nat),vs=[.ref fa,Vn x]/\Fld K H fa p m t/\Good p m t/\0<x/\x<p^m/\∀n,Ord p m t x n->n<=p^m-1->Q (Vn n) H
theorem zba:yah ["field","one","many","product"] ["field","one"] (zae zcd):=⟨rfl,rfl,rfl,by decide +kernel,rfl,by decide +kernel,by decide +kernel⟩
theorem ygz(B:Bl mg)(xC9:Has P w K mg base 3 "times" ["field","one","other"] (ybv K))(F:Fun K "round_of" "round_of" zcd f fd):FnOk P w K mg base CX0 4 f fd ["field","one"] (ze6 K):=by
 refine F.ok zba (λvs H Q E h=>?_) (λcdv A outer s H vs Q E hr h=>?_)
 ·obtain⟨fa,p,m,t,x,rfl,_⟩:=h;rfl
 obtain⟨fa,p,m,t,x,rfl,hF,G,h0,hx,q⟩:=h;have hp:=G.hp;have hm:=G.hm;have hQ:=G.hq;have hQ2:=zax hp hm;refine⟨_,(zab (@zag _ _ 2 _ _ _ _ zba.nd rfl (Or.inl rfl) yac ⋯ (by trivial)) (zab (@zag _ _ 3 _ _ _ _ zba.nd rfl (Or.inl rfl) (pv 1) ⋯ (by trivial)) (zab (@yaL _ _ _ _ _ _ xAl (@zai _ _ _ _ _ _ _ _ zd5 (pv 3) yac (yak _)) (zab (@zag _ _ 3 _ _ _ _ zba.nd rfl (Or.inl rfl) (zad xC9 hr (by decide) rfl (zaa (pv 0) (zaa (pv 3) (zaa (pv 1) zac ⋯) ⋯) ⋯) (by decide) ⋯ ⋯) ⋯ (by trivial)) (yad (@zbA _ _ 2 _ _ _ _ _ _ zba.nd rfl (Or.inl rfl) yac zds (by trivial))))) (yad (@yaj _ _ _ _ (pv 2)))))),?_⟩;refine⟨_,rfl,?_⟩;refine zaL (λσ H'=>H'=H/\∃k,1<=k/\k<=p^m-1/\σ=[some (.ref fa),some (Vn x),some (Vn k),some (Vn (pw p m t x k))]/\∀i,0<i->i<k->pw p m t x i≠1) (λσ _=>p^m-mI σ 2) ⟨rfl,1,by lia,by lia,by rw[ybR hp hm hx];rfl,λi h1 h2=>by lia⟩ ?_;rintro σ H' ⟨rfl,k,hk1,hk2,rfl,hne⟩;refine⟨_,rfl,rfl,_,rfl,?_⟩;rw[yeM];refine ite2 (λc=>?_) (λc=>?_)
 ·have hk:pw p m t x k≠1:=by
   intro e;rw[xAG e]at c;exact absurd c (by decide)
  have hk3:k<p^m-1:=by
   rcases xAS k (p^m-1) with h|h
   ·exact h
   ·have:k=p^m-1:=by lia
    rw[this]at hk;exact absurd (G.fermat h0 hx) hk
  refine⟨λσ' H''=>H''=H'/\σ'=[some (.ref fa),some (Vn x),some (Vn (k+1)),some (Vn (pw p m t x (k+1)))],?_,?_⟩
  ·rintro σ' H'' ⟨rfl,rfl⟩;refine⟨_,?_,rfl,rfl,k+1,by lia,by lia,rfl,λi h1 h2=>?_⟩
   ·show p^m-(k+1)<p^m-k;lia
   ·rcases xAS i k with h|h
    ·exact hne i h1 h
    ·rw[show i=k by lia];exact hk
  ·refine⟨_,rfl,_,rfl,_,rfl,fa,p,m,t,pw p m t x k,x,rfl,hF,hp,hm,hQ,G.top,zaS hp hm _ _,hx,λr br h1=>?_⟩;cases yb4 hp hm br h1;exact⟨_,rfl,_,_,rfl,rfl,rfl,rfl⟩
 ·have hk:pw p m t x k=1:=by
   rcases Nat.decEq (pw p m t x k) 1 with h|h
   ·exact absurd (by rw[xBt h];rfl) c
   ·exact h
  exact⟨_,rfl,q k ⟨hk1,hk,hne⟩ hk2⟩
noncomputable def zcA(K:PySem.W.Frag):Sp:=λvs H Q _=>∃(wa fa:Addr) (p m t few x:Nat) (mv:V),vs=[.ref wa]/\SqT K H wa [.ref fa,Vn few,Vn x,mv]/\Fld K H fa p m t/\Good p m t/\0<x/\x<p^m/\∀n,Ord p m t x n->n<=p^m-1->Q (Vn n) H
theorem ygb:yah ["wheel"] ["wheel"] (zae zdw):=⟨rfl,rfl,rfl,by decide +kernel,rfl,by decide +kernel,by decide +kernel⟩
theorem ygc(B:Bl mg)(xC5:Has P w K mg base 4 "round_of" ["field","one"] (ze6 K))(F:Fun K "length" "length" zdw f fd):FnOk P w K mg base CX0 5 f fd ["wheel"] (zcA K):=by
 refine F.ok ygb (λvs H Q E h=>?_) (λcdv A outer s H vs Q E hr h=>?_)
 ·obtain⟨wa,fa,p,m,t,few,x,mv,rfl,_⟩:=h;rfl
 obtain⟨wa,fa,p,m,t,few,x,mv,rfl,hw,hF,G,h0,hx,q⟩:=h;refine⟨_,(yad (@yaj _ _ _ _ (zad xC5 hr (by decide) rfl (zaa (zan zas (pv 0) yac (λ_ _=>rfl)) (zaa (zan zas (pv 0) yac (λ_ _=>rfl)) zac ⋯) ⋯) (by decide) ⋯ ⋯))),?_⟩;refine⟨_,rfl,wa,_,_,_,rfl,rfl,hw,rfl,?_⟩;refine⟨_,rfl,wa,_,_,_,rfl,rfl,hw,rfl,?_⟩;exact⟨fa,p,m,t,x,rfl,hF,G,h0,hx,q⟩
noncomputable def ybI:Sp:=λvs H Q _=>∃(tb fa pa la:Addr) (p m t b x:Nat),vs=[.ref tb,Vn x]/\Tab H tb fa pa la p m t b/\0<x/\x<p^m/\∀n,Ord p m t x n->n<=p^m-1->Q (Vn n) H
theorem yby:yah ["_law_table_here","_law_one","_law_many","_law_thing"] ["_law_table_here","_law_one"] (zae zbK):=⟨rfl,rfl,rfl,by decide +kernel,rfl,by decide +kernel,by decide +kernel⟩
theorem zfL(B:Bl mg)(xBN:Has P w K mg base 1 "_law_times" ["_law_table_here","_law_one","_law_other"] zbD)(F:Fun K "_law_round" "_law_round" zbK f fd):FnOk P w K mg base CX0 2 f fd ["_law_table_here","_law_one"] ybI:=by
 refine F.ok yby (λvs H Q E h=>?_) (λcdv A outer s H vs Q E hr h=>?_)
 ·obtain⟨tb,fa,pa,la,p,m,t,b,x,rfl,_⟩:=h;rfl
 obtain⟨tb,fa,pa,la,p,m,t,b,x,rfl,T,h0,hx,q⟩:=h;have G:=T.good;have hp:=G.hp;have hm:=G.hm;have hQ:=G.hq;have hQ2:=zax hp hm;refine⟨_,(zab (@ybS _ _ 2 3 _ _ _ _ _ _ _ _ _ _ _ rfl yby.nd rfl rfl (by decide) rfl rfl (zaa yac (zaa (pv 1) zac ⋯) ⋯) rfl ⋯) (zab (@yaL _ _ _ _ _ _ xAl (@zai _ _ _ _ _ _ _ _ zd5 (pv 3) yac (yak _)) (yad (@ybS _ _ 2 3 _ _ _ _ _ _ _ _ _ _ _ rfl yby.nd rfl rfl (by decide) rfl rfl (zaa (zaf zau (pv 2) yac) (zaa (zad xBN hr (by decide) rfl (zaa (pv 0) (zaa (pv 3) (zaa (pv 1) zac ⋯) ⋯) ⋯) (by decide) ⋯ ⋯) zac ⋯) ⋯) rfl ⋯))) (yad (@yaj _ _ _ _ (pv 2))))),?_⟩;refine⟨_,rfl,_,_,rfl,?_⟩;refine zaL (λσ H'=>H'=H/\∃k,1<=k/\k<=p^m-1/\σ=[some (.ref tb),some (Vn x),some (Vn k),some (Vn (pw p m t x k))]/\∀i,0<i->i<k->pw p m t x i≠1) (λσ _=>p^m-mI σ 2) ⟨rfl,1,by lia,by lia,by rw[ybR hp hm hx];rfl,λi h1 h2=>by lia⟩ ?_;rintro σ H' ⟨rfl,k,hk1,hk2,rfl,hne⟩;refine⟨_,rfl,rfl,_,rfl,?_⟩;rw[yeM];refine ite2 (λc=>?_) (λc=>?_)
 ·have hk:pw p m t x k≠1:=by
   intro e;rw[xAG e]at c;exact absurd c (by decide)
  have hk3:k<p^m-1:=by
   rcases xAS k (p^m-1) with h|h
   ·exact h
   ·have:k=p^m-1:=by lia
    rw[this]at hk;exact absurd (G.fermat h0 hx) hk
  refine⟨λσ' H''=>H''=H'/\σ'=[some (.ref tb),some (Vn x),some (Vn (k+1)),some (Vn (pw p m t x (k+1)))],?_,?_⟩
  ·rintro σ' H'' ⟨rfl,rfl⟩;refine⟨_,?_,rfl,rfl,k+1,by lia,by lia,rfl,λi h1 h2=>?_⟩
   ·show p^m-(k+1)<p^m-k;lia
   ·rcases xAS i k with h|h
    ·exact hne i h1 h
    ·rw[show i=k by lia];exact hk
  ·refine⟨_,rfl,_,_,rfl,rfl,_,rfl,_,rfl,_,rfl,tb,fa,pa,la,p,m,t,b,pw p m t x k,x,rfl,T,zaS hp hm _ _,hx,?_⟩;exact⟨_,_,rfl,rfl,rfl⟩
 ·have hk:pw p m t x k=1:=by
   rcases Nat.decEq (pw p m t x k) 1 with h|h
   ·exact absurd (by rw[xBt h];rfl) c
   ·exact h
  exact⟨_,rfl,q k ⟨hk1,hk,hne⟩ hk2⟩
theorem zgI{xs:List V}{v:V}(h:xs[xs.length-1]?=some v):atI xs (-1)=some v:=by
 have hl:0<xs.length:=by
  have:=(xAk.mp h).1;lia
 unfold atI ixN;rw[if_neg (by decide),if_pos (by lia)];show(some _).bind _=_;rw[Option.bind_some,<-h];congr 1;lia
end
end My
end
section
-- text: PE
namespace My
open PySem L2 Dg
local macro_rules | `(tactic| walk_at "rd") => `(tactic| repeat (first | refine ⟨_, rfl, ?_⟩ | refine ⟨_, _, rfl, rfl, ?_⟩))
noncomputable def yaB(p m t c:Nat)(xs:List Nat):List Nat:=(List.range xs.length).map λi=>mul p m t c (xs.getD i 0)
noncomputable def pwz(p m t x:Nat)(z:Int):Nat:=if x=0 then(if z=0 then 1 else 0) else pw p m t x (z%(((p^m:Nat):Int)-1)).toNat
section
variable {p m t:Nat} (G:Good p m t)
include G
theorem zb3(c:Nat)(xs:List Nat):∀x∈yaB p m t c xs,x<p^m:=λx hx=>by
 obtain⟨i,_,rfl⟩:=xAg.mp hx;exact zaA G.hp G.hm _ _
theorem zha{x k:Nat}(hx:x<p^m):pw p m t x k=mul p m t (if k%2=1 then x else 1) (pw p m t (mul p m t x x) (k/2)):=by
 have e2:pw p m t x 2=mul p m t x x:=by show mul p m t (mul p m t 1 x) x=_;rw[one_mul G.hp G.hm hx]
 by_cases c:k%2=1
 ·rw[if_pos c,<-e2,<-za7 G.hp G.hm];rw[show pw p m t x k=pw p m t x (1+2*(k/2)) by congr 1;lia,ybo G.hp G.hm,ybR G.hp G.hm hx]
 ·rw[if_neg c,<-e2,<-za7 G.hp G.hm,one_mul G.hp G.hm (zaS G.hp G.hm _ _)];congr 1;lia
theorem zcP{x:Nat}(hx:x<p^m)(n:Nat):pwz p m t x (n:Int)=pw p m t x n:=by
 unfold pwz;have hQ:=zax G.hp G.hm;by_cases c:x=0
 ·rw[if_pos c,c];cases n with
  |zero=>rfl
  |succ n=>rw[zbZ G.hp G.hm,if_neg (by lia)]
 ·rw[if_neg c,show((n:Int)%(((p^m:Nat):Int)-1)).toNat=n%(p^m-1) from ?_,G.pw_mod (by lia) hx];rw[show((p^m:Nat):Int)-1=((p^m-1:Nat):Int) by lia,<-Int.natCast_emod];rfl
theorem yif{x:Nat}(h0:0<x)(hx:x<p^m):pwz p m t x (-1)=pw p m t x (p^m-2):=by
 unfold pwz;have hQ:=zax G.hp G.hm;rw[if_neg (by lia)];by_cases c:p^m=2
 ·rw[c];rfl
 ·have e:((-1:Int)%(((p^m:Nat):Int)-1))=((p^m-2:Nat):Int):=by
   have h1:=Int.emod_nonneg (-1) (show((p^m:Nat):Int)-1≠0 by lia);rw[show(-1:Int)=((p^m-2:Nat):Int)+(((p^m:Nat):Int)-1)*(-1) by lia,Int.add_mul_emod_self_left];exact Int.emod_eq_of_lt (by lia) (by lia)
  rw[e];rfl
end
section
variable {P:Program} {w:World} {K:PySem.W.Frag} {mg:Str->Option Value} {base:Heap} {f:Addr} {fd:FuncData}
noncomputable def ydn(K:PySem.W.Frag):Sp:=λvs H Q _=>∃(a:Addr) (p m t:Nat),vs=[.ref a]/\Fld K H a p m t/\p<=64/\m<=1000/\Q (Vn (p^m)) H
theorem zc3:yah ["field"] ["field"] (zae ybs):=⟨rfl,rfl,rfl,by decide +kernel,rfl,by decide +kernel,by decide +kernel⟩
theorem yhq(B:Bl mg)(xC1:Has P w K mg base 1 "number_power" ["base","many"] zam)(F:Fun K "many_things" "many_things" ybs f fd):FnOk P w K mg base CX0 2 f fd ["field"] (ydn K):=by
 refine F.ok zc3 (λvs H Q E h=>?_) (λcdv A outer s H vs Q E hr h=>?_)
 ·obtain⟨a,p,m,t,rfl,_⟩:=h;rfl
 obtain⟨a,p,m,t,rfl,hF,hp,hm,q⟩:=h;refine⟨_,(yad (@yaj _ _ _ _ (zad xC1 hr (by decide) rfl (zaa (zan zas (pv 0) yac (λ_ _=>rfl)) (zaa (zan zas (pv 0) yac (λ_ _=>rfl)) zac ⋯) ⋯) (by decide) ⋯ ⋯))),?_⟩;refine⟨_,rfl,a,_,_,_,rfl,rfl,hF,rfl,_,rfl,a,_,_,_,rfl,rfl,hF,rfl,p,m,rfl,hp,hm,q⟩
noncomputable def ycI(K:PySem.W.Frag):Sp:=λvs H Q _=>∃(a:Addr) (p m t x n:Nat),vs=[.ref a,Vn x,Vn n]/\Fld K H a p m t/\Good p m t/\x<p^m/\Q (Vn (pw p m t x n)) H
theorem yaI:yah ["field","one","many","product"] ["field","one","many"] (zae ybg):=⟨rfl,rfl,rfl,by decide +kernel,rfl,by decide +kernel,by decide +kernel⟩
theorem yfV(B:Bl mg)(xC9:Has P w K mg base 3 "times" ["field","one","other"] (ybv K))(F:Fun K "times_itself" "times_itself" ybg f fd):FnOk P w K mg base CX0 4 f fd ["field","one","many"] (ycI K):=by
 refine F.ok yaI (λvs H Q E h=>?_) (λcdv A outer s H vs Q E hr h=>?_)
 ·obtain⟨a,p,m,t,x,n,rfl,_⟩:=h;rfl
 obtain⟨a,p,m,t,x,n,rfl,hF,G,hx,q⟩:=h;have hp:=G.hp;have hm:=G.hm;refine⟨_,(zab (@zag _ _ 3 _ _ _ _ yaI.nd rfl (Or.inl rfl) yac ⋯ (by trivial)) (zab (@yaL _ _ _ _ _ _ xAl (@zai _ _ _ _ _ _ _ _ ybU (pv 2) yac (yak _)) (zab (@za3 _ _ _ _ _ _ _ _ (@zai _ _ _ _ _ _ _ _ ya9 (zaf yaz (pv 2) yac) yac (yak _)) (yad (@zag _ _ 3 _ _ _ _ yaI.nd rfl (Or.inl rfl) (zad xC9 hr (by decide) rfl (zaa (pv 0) (zaa (pv 3) (zaa (pv 1) zac ⋯) ⋯) ⋯) (by decide) ⋯ ⋯) ⋯ (by trivial))) zaw) (zab (@zbA _ _ 2 _ _ _ _ _ _ yaI.nd rfl (Or.inl rfl) yac ycF (by trivial)) (yad (@za3 _ _ _ _ _ _ _ _ (@zai _ _ _ _ _ _ _ _ ybU (pv 2) yac (yak _)) (yad (@zag _ _ 1 _ _ _ _ yaI.nd rfl (Or.inl rfl) (zad xC9 hr (by decide) rfl (zaa (pv 0) (zaa (pv 1) (zaa (pv 1) zac ⋯) ⋯) ⋯) (by decide) ⋯ ⋯) ⋯ (by trivial))) zaw))))) (yad (@yaj _ _ _ _ (pv 3))))),?_⟩;refine zaL (λσ H'=>H'=H/\∃(o k pr:Nat),σ=[some (.ref a),some (Vn o),some (Vn k),some (Vn pr)]/\o<p^m/\pr<p^m/\mul p m t pr (pw p m t o k)=pw p m t x n)
  (λσ _=>mI σ 2) ⟨rfl,x,n,1,rfl,hx,zax hp hm,one_mul hp hm (zaS hp hm _ _)⟩ ?_
 rintro σ H' ⟨rfl,o,k,pr,rfl,ho,hpr,he⟩
 walk_at "rd"
 refine ite2 (λc=>?_) (λc=>?_)
 ·have c':0<k:=by have:=xAj c;lia
  refine⟨λσ' H''=>H''=H'/\∃(o' pr':Nat),σ'=[some (.ref a),some (Vn o'),some (Vn (k/2)),some (Vn pr')]/\o'<p^m/\pr'<p^m/\mul p m t pr' (pw p m t o' (k/2))=pw p m t x n,?_,?_⟩
  ·rintro σ' H'' ⟨rfl,o',pr',rfl,b1,b2,b3⟩;exact⟨_,by show k/2<k;exact Nat.div_lt_self c' (by lia),rfl,rfl,o',k/2,pr',rfl,b1,b2,b3⟩
  refine za9 (λσ' H''=>H''=H'/\∃pr':Nat,σ'=[some (.ref a),some (Vn o),some (Vn k),some (Vn pr')]/\pr'<p^m/\mul p m t pr' (pw p m t (mul p m t o o) (k/2))=pw p m t x n) ?_ ?_
  ·rintro σ' H'' ⟨rfl,pr',rfl,hpr',he'⟩
   walk_at "rd"
   refine⟨⟨by show(0:Int)<2;decide,by show(2:Int)<2^64;decide⟩,?_⟩
   walk_at "rd"
   refine ite2 (λc2=>?_) (λc2=>?_)
   ·refine⟨_,rfl,_,rfl,_,rfl,a,p,m,t,o,o,rfl,hF,hp,hm,G.hq,G.top,ho,ho,λr br hr=>?_⟩;cases yb4 hp hm br hr;exact⟨rfl,_,pr',rfl,zaA hp hm _ _,hpr',he'⟩
   ·have k0:k/2=0:=by
     have:=of_decide_eq_false (Bool.eq_false_iff.mpr c2);have e:((k/2:Nat):Int)=(k:Int)/2:=rfl;lia
    rw[k0]at he';refine⟨rfl,o,pr',rfl,ho,hpr',?_⟩;rw[k0];exact he'
  ·intro D' _ _ _ hD';refine⟨_,rfl,_,_,rfl,rfl,by show(0:Int)<2;decide,rfl,_,rfl,?_⟩;have ed:decide (V.int ((k:Int)%2)=V.int 1)=decide (k%2=1):=decide_eq_decide.mpr ⟨λe=>by injection e with e;lia,λe=>by congr 1;lia⟩;rw[ed];rw[zha G ho,<-mul_assoc hp hm]at he;refine ite2 (λc2=>?_) (λc2=>?_)
   ·have c3:k%2=1:=xAj c2;rw[if_pos c3]at he;refine⟨_,rfl,_,rfl,_,rfl,a,p,m,t,pr,o,rfl,hF,hp,hm,G.hq,G.top,hpr,ho,λr br hr=>?_⟩;cases yb4 hp hm br hr;exact hD' _ _ ⟨rfl,_,rfl,zaA hp hm _ _,he⟩
   ·have c3:¬ k%2=1:=λh=>c2 (xAG h)
    rw[if_neg c3,mul_one hp hm hpr]at he;exact hD' _ _ ⟨rfl,_,rfl,hpr,he⟩
 ·have c':k=0:=by have:=of_decide_eq_false (Bool.eq_false_iff.mpr c);lia
  subst c';refine⟨_,rfl,?_⟩;have e:pr=pw p m t x n:=by rw[<-he];exact(mul_one hp hm hpr).symm
  rw[e];exact q
noncomputable def yfs(K:PySem.W.Frag):Sp:=λvs H Q _=>∃(a:Addr) (p m t x y:Nat),vs=[.ref a,Vn x,Vn y]/\Fld K H a p m t/\Good p m t/\x<p^m/\0<y/\y<p^m/\Q (Vn (mul p m t x (pw p m t y (p^m-2)))) H
theorem zhv:yah ["field","one","other"] ["field","one","other"] (zae zfF):=⟨rfl,rfl,rfl,by decide +kernel,rfl,by decide +kernel,by decide +kernel⟩
theorem zhC(B:Bl mg)(xC9:Has P w K mg base 3 "times" ["field","one","other"] (ybv K))(xCa:Has P w K mg base 4 "times_itself" ["field","one","many"] (ycI K))(xBZ:Has P w K mg base 2 "many_things" ["field"] (ydn K))(F:Fun K "over" "over" zfF f fd):FnOk P w K mg base CX0 5 f fd ["field","one","other"] (yfs K):=by
 refine F.ok zhv (λvs H Q E h=>?_) (λcdv A outer s H vs Q E hr h=>?_)
 ·obtain⟨a,p,m,t,x,y,rfl,_⟩:=h;rfl
 obtain⟨a,p,m,t,x,y,rfl,hF,G,hx,h0,hy,q⟩:=h;have hp:=G.hp;have hm:=G.hm;have hQ:=zax hp hm;refine⟨_,(zab (@za3 _ _ _ _ _ _ _ _ (@zai _ _ _ _ _ _ _ _ ya9 (pv 2) yac (yak _)) (yad zct) zaw) (yad (@yaj _ _ _ _ (zad xC9 hr (by decide) rfl (zaa (pv 0) (zaa (pv 1) (zaa (zad xCa hr (by decide) rfl (zaa (pv 0) (zaa (pv 2) (zaa (zaf yaG (zad xBZ hr (by decide) rfl (zaa (pv 0) zac ⋯) (by decide) ⋯ ⋯) yac) zac ⋯) ⋯) ⋯) (by decide) ⋯ ⋯) zac ⋯) ⋯) ⋯) (by decide) ⋯ ⋯)))),?_⟩;refine⟨_,rfl,rfl,_,rfl,?_⟩;rw[ybu];refine ite2 (λc=>absurd (xAj c) (by lia)) (λ_=>?_);refine⟨_,rfl,_,rfl,_,rfl,_,rfl,_,rfl,a,p,m,t,rfl,hF,p_le hp hm G.hq,by have:=m_le hp G.hq;lia,?_⟩;refine⟨_,_,rfl,rfl,a,p,m,t,y,p^m-2,?_,hF,G,hy,?_⟩
 ·show [V.ref a,Vn y,V.int (((p^m:Nat):Int)-2)]=[V.ref a,Vn y,V.int ((p^m-2:Nat):Int)]
  rw[show((p^m:Nat):Int)-2=((p^m-2:Nat):Int) by lia]
 refine⟨a,p,m,t,x,_,rfl,hF,hp,hm,G.hq,G.top,hx,zaS hp hm _ _,λr br hr=>?_⟩;cases yb4 hp hm br hr;exact q
noncomputable def yb0(K:PySem.W.Frag):Sp:=λvs H Q _=>∃(fa a:Addr) (p m t c:Nat) (xs:List Nat),vs=[.ref fa,Vn c,.ref a]/\Fld K H fa p m t/\Good p m t/\c<p^m/\SqT K H a (xs.map Vn)/\xs.length<=100/\(∀x∈xs,x<p^m)/\
 ∀r H',Same H H'->H r=none->H' r=some (.tup ((yaB p m t c xs).map Vn))->Q (.ref r) H'
theorem zdx:yah ["field","one","word"] ["field","one","word"] (zae zbe):=⟨rfl,rfl,rfl,by decide +kernel,rfl,by decide +kernel,by decide +kernel⟩
theorem zdh(B:Bl mg)(xC9:Has P w K mg base 3 "times" ["field","one","other"] (ybv K))(F:Fun K "word_times" "word_times" zbe f fd):FnOk P w K mg base CX0 4 f fd ["field","one","word"] (yb0 K):=by
 refine F.ok zdx (λvs H Q E h=>?_) (λcdv A outer s H vs Q E hr h=>?_)
 ·obtain⟨fa,a,p,m,t,c,xs,rfl,_⟩:=h;rfl
 obtain⟨fa,a,p,m,t,c,xs,rfl,hF,G,hc,ha,hl,hx,q⟩:=h;refine⟨_,(yad (@yaj _ _ _ _ (zap yap rfl (B "tuple" (by decide)) zaq (zaa (@yaF _ _ _ _ _ _ _ ["thing"] ["field","one"] [0,1] _ _ _ _ (id (α:=CSc ["field","one","word"] (zae zbe) ["thing"] ["field","one"] [0,1] _) ⟨by rfl,by decide +kernel,by decide +kernel,by decide +kernel,by decide +kernel,by rfl,by decide +kernel⟩) rfl (@ycG _ _ _ _ (pv 2)) (λcl C fp s H=>(@yae _ _ 0 _ (by show List.Nodup (["thing","field","one"]:List Str);decide +kernel) rfl (Or.inl rfl) (by trivial))) (λ_ _ _ _ _=>zaM) (λ_ _ _ _ _=>(zad xC9 hr (by decide) rfl (zaa (pv 1) (zaa (pv 2) (zaa (pv 0) zac ⋯) ⋯) ⋯) (by decide) ⋯ ⋯)) (by intro _;rfl)) zac ⋯) (by decide) (by decide) ⋯ ⋯))),?_⟩;refine⟨_,rfl,a,rfl,⟨_,ha⟩,?_⟩;refine yav (zbt (xs:=xs.map Vn)) (λk acc H'=>Same H H'/\acc=((List.range k).map λi=>mul p m t c (xs.getD i 0)).map Vn) ⟨Same.refl _,rfl⟩ (λi acc H' _ h=>Same.tup h.1 ha) ?_ ?_ ?_
 ·rintro k acc H' hk ⟨_,rfl⟩;rw[xA0]at hk;rw[xA0,xA0,xAr];exact yao (by lia)
 ·rintro k acc z H1 H2 hk ⟨s1,rfl⟩ ⟨rfl,ez⟩;rw[xA0]at hk;rw[zav (by lia)]at ez;cases ez;refine⟨_,rfl,_,rfl,_,rfl,fa,p,m,t,c,xs.getD k 0,rfl,Same.tup s1 hF,G.hp,G.hm,G.hq,G.top,hc,yaO hx (by lia),λr br h1=>?_⟩;cases yb4 G.hp G.hm br h1;refine⟨s1,?_⟩;rw[xBd,xAe,xAe];rfl
 ·rw[xA0];rintro acc H1 ⟨s1,rfl⟩ D hD;refine⟨D,_,rfl,.inl ⟨SqL.of yaa,λr hr=>?_⟩⟩;have s2:=s1.trans (yab hD (.lst ((yaB p m t c xs).map Vn)));exact q r _ (s2.trans (yab hr _)) (s2.free hr) yaa
noncomputable def ydm:Sp:=λvs H Q _=>∃(tb fa pa la:Addr) (p m t b x:Nat) (z:Int),vs=[.ref tb,Vn x,.int z]/\Tab H tb fa pa la p m t b/\x<p^m/\Q (Vn (pwz p m t x z)) H
theorem zgl(B:Bl mg)(F:Fun K "_law_power" "_law_power" ybD f fd):FnOk P w K mg base CX0 1 f fd ["_law_table_here","_law_one","_law_many"] ydm:=by
 refine F.ok zdu (λvs H Q E h=>?_) (λcdv A outer s H vs Q E hr h=>?_)
 ·obtain⟨tb,fa,pa,la,p,m,t,b,x,n,rfl,_⟩:=h;rfl
 obtain⟨tb,fa,pa,la,p,m,t,b,x,z,rfl,T,hx,q⟩:=h;have hp:=T.good.hp;have hm:=T.good.hm;have hQ2:=zax hp hm;have hQ:=T.good.hq;unfold pwz at q;refine⟨_,(zab (@za3 _ _ _ _ _ _ _ _ (@zai _ _ _ _ _ _ _ _ ya9 (pv 1) yac (yak _)) (yad (@yaj _ _ _ _ (zap ycL rfl (B "int" (by decide)) ybW (zaa (@ydi _ _ _ _ _ _ _ _ ya9 (pv 2) yac (yak _)) zac ⋯) (by decide) (by decide) ⋯ ⋯))) zaw) (yad (@yaj _ _ _ _ (zan zao (@zaB _ _ _ _ _ _ (zbq hr) (pv 0) zaH (λ_ _=>rfl)) (zaf yaz (zaf zaU (@zaB _ _ _ _ _ _ (zbq hr) (@zaB _ _ _ _ _ _ (zbq hr) (pv 0) zaH (λ_ _=>rfl)) (pv 1) (λ_ _=>rfl)) (pv 2)) (zaf yaG (@zaB _ _ _ _ _ _ (zbq hr) (pv 0) zaH (λ_ _=>rfl)) yac)) (λ_ _=>rfl))))),?_⟩;refine⟨_,rfl,rfl,_,rfl,?_⟩;rw[ybu];refine ite2 (λc=>?_) (λc=>?_)
 ·have x0:x=0:=xAj c;rw[if_pos x0]at q;refine⟨_,rfl,rfl,.inr ⟨_,rfl,?_⟩⟩;by_cases cz:z=0
  ·rw[if_pos cz]at q;rw[if_pos (xAG (by rw[cz]))];exact q
  ·rw[if_neg cz]at q;rw[if_neg (λh=>cz (by have:=xAj h;injection this))];exact q
 ·have x0:0<x:=by
   have:¬ x=0:=λh=>c (xAG h)
   lia
  rw[if_neg (by lia)]at q;obtain⟨i,hi,ei⟩:=T.prim.all x x0 hx;have gi:=T.log hi;rw[ei]at gi;refine⟨_,rfl,tb,_,rfl,T.get yc6,?_⟩;refine⟨_,rfl,tb,_,rfl,T.get zdt,_,rfl,la,_,rfl,gi,_,rfl,_,_,rfl,rfl,.inl ⟨by lia,by lia⟩,?_⟩;refine⟨_,rfl,tb,_,rfl,T.get zcq,_,_,rfl,rfl,_,_,rfl,rfl,by show(0:Int)<((p^m:Nat):Int)-1;lia,?_⟩;have hz0:=Int.emod_nonneg z (show((p^m:Nat):Int)-1≠0 by lia);have hz1:=Int.emod_lt_of_pos z (show(0:Int)<((p^m:Nat):Int)-1 by lia);obtain⟨n,en⟩:=Int.eq_ofNat_of_zero_le hz0;rw[en]at q hz1;have ek:((i:Int)*z)%(((p^m:Nat):Int)-1)=(((i*n)%(p^m-1):Nat):Int):=by
   rw[Int.mul_emod,en,Int.natCast_emod,Int.natCast_mul,Int.natCast_sub (by lia)];rw[Int.mul_emod];simp;exact(Int.mul_emod _ _ _).symm
  have hk:(i*n)%(p^m-1)<p^m-1:=xAR _ (by lia);refine⟨pa,_,_,Vn (pw p m t b ((i*n)%(p^m-1))),rfl,rfl,SqL.of T.w,?_,?_⟩
  ·show atI _ (((i:Int)*z)%(((p^m:Nat):Int)-1))=_;rw[ek];exact zaN (by unfold Pws;rw[xA8,xA8,xAL hk];rfl)
  ·have e:pw p m t b ((i*n)%(p^m-1))=pw p m t x n:=by
    rw[T.good.pw_mod T.prim.pos T.prim.lt,za7 hp hm,ei]
   rw[e];exact q
noncomputable def zdU:Sp:=λvs H Q _=>∃(tb fa pa la:Addr) (p m t b x y:Nat),vs=[.ref tb,Vn x,Vn y]/\Tab H tb fa pa la p m t b/\x<p^m/\y<p^m/\Q (Vn (sub p m x y)) H
theorem ydF:yah ["_law_table_here","_law_one","_law_other"] ["_law_table_here","_law_one","_law_other"] (zae ybK):=⟨rfl,rfl,rfl,by decide +kernel,rfl,by decide +kernel,by decide +kernel⟩
theorem zfX(B:Bl mg)(xBE:Has P w K mg base 1 "_law_plus" ["_law_table_here","_law_one","_law_other"] zdp)(xBN:Has P w K mg base 1 "_law_times" ["_law_table_here","_law_one","_law_other"] zbD)(F:Fun K "_law_minus" "_law_minus" ybK f fd):FnOk P w K mg base CX0 2 f fd ["_law_table_here","_law_one","_law_other"] zdU:=by
 refine F.ok ydF (λvs H Q E h=>?_) (λcdv A outer s H vs Q E hr h=>?_)
 ·obtain⟨tb,fa,pa,la,p,m,t,b,x,y,rfl,_⟩:=h;rfl
 obtain⟨tb,fa,pa,la,p,m,t,b,x,y,rfl,T,hx,hy,q⟩:=h;have hp:=T.good.hp;have hm:=T.good.hm;have hpp:p<=p^m:=by simpa using xAI (show 0<p by lia) hm
 refine⟨_,(yad (@yaj _ _ _ _ (zad xBE hr (by decide) rfl (zaa (pv 0) (zaa (pv 1) (zaa (zad xBN hr (by decide) rfl (zaa (pv 0) (zaa (zaf yaG (@zaB _ _ _ _ _ _ (zbq hr) (pv 0) zaH (λ_ _=>rfl)) yac) (zaa (pv 2) zac ⋯) ⋯) ⋯) (by decide) ⋯ ⋯) zac ⋯) ⋯) ⋯) (by decide) ⋯ ⋯))),?_⟩;refine⟨_,rfl,_,rfl,_,rfl,_,rfl,tb,_,rfl,T.get zf8,_,_,rfl,rfl,_,rfl,?_⟩;refine⟨tb,fa,pa,la,p,m,t,b,p-1,y,by show [_,V.int ((p:Int)-1),_]=_;rw[show(p:Int)-1=((p-1:Nat):Int) by lia],T,by lia,hy,?_⟩;refine⟨tb,fa,pa,la,p,m,t,b,x,mul p m t (p-1) y,rfl,T,hx,zaA hp hm _ _,?_⟩;rw[zdX hp hm hx hy];exact q
end
end My
end
section
-- text: PF
namespace My
open PySem L2 Dg
local macro_rules | `(tactic| walk_at "rd") => `(tactic| repeat (first | refine ⟨_, rfl, ?_⟩ | refine ⟨_, _, rfl, rfl, ?_⟩))
section
variable {P:Program} {w:World} {K:PySem.W.Frag} {mg:Str->Option Value} {base:Heap} {f:Addr} {fd:FuncData}
end
end My
end
section
-- text: PJ
namespace My
open PySem L2 Dg
local macro_rules | `(tactic| walk_at "rd") => `(tactic| repeat (first | refine ⟨_, rfl, ?_⟩ | refine ⟨_, _, rfl, rfl, ?_⟩))
section
variable {p m t:Nat} (G:Good p m t)
include G
theorem Ord.dvd{x n k:Nat}(hx:x<p^m)(o:Ord p m t x n)(h:pw p m t x k=1):k%n=0:=by
 have hp:=G.hp;have hm:=G.hm;rcases xAZ (k%n) with c|c
 ·exact c
 ·have e:pw p m t x (n*(k/n)+k%n)=1:=by rw[Nat.div_add_mod];exact h
  rw[ybo hp hm,za7 hp hm,o.one,zcU hp hm,one_mul hp hm (zaS hp hm _ _)]at e;exact absurd e (o.min _ c (xAR _ (by have:=o.pos;lia)))
theorem Ord.round{x n few:Nat}(h0:0<x)(hx:x<p^m)(o:Ord p m t x n)(hf:m%few=0)(hf1:1<=few):(p^few)^(m/few)%n=1%n:=by
 have hp:=G.hp;have hm:=G.hm;have h1:=Ord.dvd G hx o (G.fermat h0 hx);have hQ:=zax hp hm;have e:few*(m/few)=m:=by have:=Nat.div_add_mod m few;rw[hf]at this;lia
 rw[<-Nat.pow_mul,e];obtain⟨c,hc⟩:=xBj h1;rw[show p^m=1+n*c by lia,Nat.add_mul_mod_self_left]
end
section
variable {P:Program} {w:World} {K:PySem.W.Frag} {mg:Str->Option Value} {base:Heap} {f:Addr} {fd:FuncData}
noncomputable def ybx(i n q L:Nat):List Nat:=(List.range L).map λj=>i*q^j%n
theorem ydR{i n q L j:Nat}(h:j<L):(ybx i n q L).getD j 0=i*q^j%n:=by unfold ybx;rw[xAf,xA8,xAL h];rfl
theorem ycJ{q e n:Nat}(hr:q^e%n=1%n)(he:1<=e)(i a:Nat):i*q^a*q^(e*a-a)%n=i%n:=by
 have h:a<=e*a:=Nat.le_mul_of_pos_left a he;rw[Nat.mul_assoc,<-Nat.pow_add,show a+(e*a-a)=e*a by lia,Nat.pow_mul,Nat.mul_mod,Nat.pow_mod,hr,<-Nat.pow_mod,Nat.one_pow,<-Nat.mul_mod,Nat.mul_one]
theorem zfh{i n q e L:Nat}(hr:q^e%n=1%n)(he:1<=e)(h:∀j,0<j->j<L->i*q^j%n≠i%n):(ybx i n q L).Nodup:=by
 refine za8 _ λa b ha hb e1=>?_
 have key:∀a b:Nat,a<b->b<L->i*q^a%n=i*q^b%n->False:=λa b hab hb e1=>by
  refine h (b-a) (by lia) (by lia) ?_;have e2:=ycJ hr he i a;rw[Nat.mul_mod,e1,<-Nat.mul_mod,show i*q^b=i*q^(b-a)*q^a by rw[Nat.mul_assoc,<-Nat.pow_add,show b-a+a=b by lia],ycJ hr he]at e2;exact e2
 rcases Nat.lt_trichotomy a b with h1|h1|h1
 ·exact(key a b h1 hb e1).elim
 ·exact h1
 ·exact(key b a h1 ha e1.symm).elim
theorem zgv{i n q L:Nat}(heq:i*q^L%n=i*q^0%n)(hL:0<L)(j:Nat):i*q^j%n∈ybx i n q L:=by
 induction j with
 |zero=>exact xAg.mpr ⟨0,xAw.mpr hL,rfl⟩
 |succ j ih=>
  obtain⟨k,hk,ek⟩:=xAg.mp ih;have hk:=xAw.mp hk;have e2:i*q^(j+1)%n=i*q^(k+1)%n:=by
   rw[xAD,xAD,<-Nat.mul_assoc,<-Nat.mul_assoc,Nat.mul_mod,<-ek,<-Nat.mul_mod]
  rw[e2];by_cases c:k+1<L
  ·exact xAg.mpr ⟨k+1,xAw.mpr c,rfl⟩
  ·rw[show k+1=L by lia,heq];exact xAg.mpr ⟨0,xAw.mpr hL,rfl⟩
noncomputable def zcw:Sp:=λvs H Q _=>∃(i n q e:Nat),vs=[Vn i,Vn n,Vn q]/\0<n/\n<=64/\q<=64/\1<=e/\e<=6/\q^e%n=1%n/\
 ∀r (ns:List Nat) H',Same H H'->H r=none->H' r=some (.lst (ns.map Vn))->0<ns.length->ns.length<=6->(∀x∈ns,x<n)->(∀x∈ns,x*q%n∈ns)->ns.Nodup->(∀x∈ns,∃j,x=i*q^j%n)->(∀j,i*q^j%n∈ns)->Q (.ref r) H'
theorem yck:yah ["_law_i","_law_n","_law_q","_law_found"] ["_law_i","_law_n","_law_q"] (zae ybX):=⟨rfl,rfl,rfl,by decide +kernel,rfl,by decide +kernel,by decide +kernel⟩
theorem zgp(B:Bl mg)(F:Fun K "_law_ring" "_law_ring" ybX f fd):FnOk P w K mg base CX0 1 f fd ["_law_i","_law_n","_law_q"] zcw:=by
 refine F.ok yck (λvs H Q E h=>?_) (λcdv A outer s H vs Q E hr h=>?_)
 ·obtain⟨i,n,q,e,rfl,_⟩:=h;rfl
 obtain⟨i,n,q,e,rfl,hn,hn2,hq,he1,he2,hr1,q'⟩:=h;refine⟨_,(zab (@zag _ _ 3 _ _ _ _ yck.nd rfl (Or.inl rfl) (@yaA _ _ _ _ (zaa (zaf yaz (pv 0) (pv 1)) zac ⋯)) ⋯ (by trivial)) (zab (@yaL _ _ _ _ _ _ xAl (@zai _ _ _ _ _ _ _ _ zd5 (zaf yaz (zaf zaU (zan zao (pv 3) (@zfJ _ _ _ _ _ _ zdW yac) (λ_ _=>rfl)) (pv 2)) (pv 1)) (zan zao (pv 3) yac (λ_ _=>rfl)) (yak _)) (yad (@ycf _ _ _ _ (@zfi _ _ _ _ _ _ _ _ _ _ _ _ PySem.F.plainAttrs_list PySem.F.slot_list_append PySem.F.type_list_append yb6 (pv 3) (zaa (zaf yaz (zaf zaU (zan zao (pv 3) (@zfJ _ _ _ _ _ _ zdW yac) (λ_ _=>rfl)) (pv 2)) (pv 1)) zac ⋯) ⋯ ⋯ ⋯ ⋯ ⋯) ⋯))) (yad (@yaj _ _ _ _ (pv 3))))),?_⟩;refine⟨_,rfl,_,rfl,_,_,rfl,rfl,by show(0:Int)<n;lia,szl 1,λl hl=>?_⟩;dsimp only[yau];refine zaL (λσ H'=>∃L:Nat,1<=L/\L<=e/\(∀j,0<j->j<L->i*q^j%n≠i%n)/\H'=upd H l (.lst ((ybx i n q L).map Vn))/\σ=[some (Vn i),some (Vn n),some (Vn q),some (.ref l)]) (λ_ H'=>7-zdk H' l) ⟨1,xA4 _,he1,λj _ _=>by lia,by simp[ybx];rfl,rfl⟩ ?_;rintro σ H' ⟨L,h1,h2,hne0,rfl,rfl⟩;have el:upd H l (.lst ((ybx i n q L).map Vn)) l=some (.lst ((ybx i n q L).map Vn)):=yaa;have ll:(ybx i n q L).length=L:=by simp[ybx]
 have hlast:atI ((ybx i n q L).map Vn) (-1)=some (Vn (i*q^(L-1)%n)):=zgI (by rw[xA0,ll,zav (by lia),ydR (by lia)]);have hfirst:atI ((ybx i n q L).map Vn) 0=some (Vn (i*q^0%n)):=zaN (j:=0) (by rw[zav (by lia),ydR (by lia)]);have hml:i*q^(L-1)%n<n:=xAR _ hn;refine⟨_,rfl,_,rfl,l,_,_,_,rfl,rfl,SqL.of el,hlast,_,rfl,_,_,rfl,rfl,.inl ⟨by show -(2^64:Int)<((i*q^(L-1)%n:Nat):Int);lia,by show((i*q^(L-1)%n:Nat):Int)<2^64;lia⟩,?_⟩;refine⟨_,rfl,_,_,rfl,rfl,by show(0:Int)<n;lia,?_⟩;refine⟨_,rfl,l,_,_,_,rfl,rfl,SqL.of el,hfirst,rfl,_,rfl,?_⟩;have en:(i*q^(L-1)%n)*q%n=i*q^L%n:=by
  rw[Nat.mod_mul_mod,Nat.mul_assoc,<-xAD,show(L-1).succ=L by lia]
 have e0:i*q^0%n=i%n:=by rw[Nat.pow_zero,Nat.mul_one]
 refine ite2 (λc=>?_) (λc=>?_)
 ·have hne:i*q^L%n≠i%n:=by
   intro h;have:(V.int ((((i*q^(L-1)%n:Nat):Int)*(q:Int))%(n:Int)))=Vn (i*q^0%n):=by
    show V.int _=V.int _;congr 1;rw[e0,<-h,<-en];rfl
   rw[xAG this]at c;exact absurd c (by decide)
  have hL:L<e:=by
   rcases xAS L e with h|h
   ·exact h
   ·have hle:L=e:=by lia
    rw[hle]at hne;refine absurd ?_ hne;rw[Nat.mul_mod,hr1,<-Nat.mul_mod,Nat.mul_one]
  refine⟨λσ' H'=>H'=upd H l (.lst ((ybx i n q (L+1)).map Vn))/\σ'=[some (Vn i),some (Vn n),some (Vn q),some (.ref l)],?_,?_⟩
  ·rintro σ' H' ⟨rfl,rfl⟩;refine⟨_,?_,rfl,L+1,by lia,by lia,λj j0 j1=>?_,rfl,rfl⟩
   case refine_2=>
    rcases xAS j L with h|h
    ·exact hne0 j j0 h
    ·rw[show j=L by lia];exact hne
   rw[zbN yaa,zbN yaa,xA0,xA0,ll,show(ybx i n q (L+1)).length=L+1 by simp[ybx]];lia
  ·refine⟨_,rfl,.inl ⟨rfl,_,SqL.of el⟩,?_⟩;refine⟨_,rfl,_,rfl,l,_,_,_,rfl,rfl,SqL.of el,hlast,_,rfl,_,_,rfl,rfl,.inl ⟨by show -(2^64:Int)<((i*q^(L-1)%n:Nat):Int);lia,by show((i*q^(L-1)%n:Nat):Int)<2^64;lia⟩,?_⟩;refine⟨_,rfl,_,_,rfl,rfl,by show(0:Int)<n;lia,?_⟩;refine⟨l,_,_,rfl,rfl,el,by rw[xA0,ll];exact yao (by lia),?_,rfl⟩;rw[zek];congr 2;have e1:ybx i n q (L+1)=ybx i n q L++[i*q^L%n]:=by unfold ybx;rw[xBd,xAe];rfl
   rw[e1,xAe,<-en];rfl
 ·have heq:i*q^L%n=i*q^0%n:=by
   have h:decide (V.int ((((i*q^(L-1)%n:Nat):Int)*(q:Int))%(n:Int))=Vn (i*q^0%n))=true:=by
    rcases hb:decide (V.int ((((i*q^(L-1)%n:Nat):Int)*(q:Int))%(n:Int))=Vn (i*q^0%n)) with _|_
    ·exact absurd (show(!decide (V.int ((((i*q^(L-1)%n:Nat):Int)*(q:Int))%(n:Int))=Vn (i*q^0%n)))=true by rw[hb];rfl) c
    ·rfl
   have h2:=V.int.inj (xAj h);rw[<-en];exact Int.ofNat.inj h2
  refine⟨_,rfl,q' l (ybx i n q L) _ (yab hl _) hl el (by rw[ll];lia) (by rw[ll];lia) (λx hx=>?_) (λx hx=>?_) ?_ (λx hx=>?_) (zgv heq (by lia))⟩
  rotate_left 2
  ·refine zfh hr1 (by lia) hne0
  ·obtain⟨j,_,rfl⟩:=xAg.mp hx;exact⟨j,rfl⟩
  ·obtain⟨j,_,rfl⟩:=xAg.mp hx;exact xAR _ hn
  ·obtain⟨j,hj,rfl⟩:=xAg.mp hx;have hj:=xAw.mp hj;have e2:i*q^j%n*q%n=i*q^(j+1)%n:=by rw[Nat.mod_mul_mod,Nat.mul_assoc,<-xAD]
   rw[e2];by_cases cj:j+1<L
   ·exact xAg.mpr ⟨j+1,xAw.mpr cj,rfl⟩
   ·rw[show j+1=L by lia,heq];exact xAg.mpr ⟨0,xAw.mpr (by lia),rfl⟩
theorem ygA(a b:Nat):decide (V.int ((a:Int)%(b:Int))=V.int 0)=decide (a%b=0) :=
 decide_eq_decide.mpr ⟨λe=>Int.ofNat.inj (show Int.ofNat (a%b)=Int.ofNat 0 from V.int.inj e),λe=>congrArg V.int (show Int.ofNat (a%b)=Int.ofNat 0 from congrArg Int.ofNat e)⟩
structure Whl(p m t few root n:Nat)(marks:List Nat):Prop where
 few1:1<=few
 fewm:m%few=0
 r0:0<root
 rq:root<p^m
 ord:Ord p m t root n
 nq:n<=p^m-1
 asc:marks.Pairwise (· < ·)
 lt:∀x∈marks,x<n
 closed:∀x∈marks,x*p^few%n∈marks
structure WhAt(H:Hp)(wh fa mk:Addr)(few root:Nat)(marks:List Nat):Prop where
 w:H wh=some (.tup [.ref fa,Vn few,Vn root,.ref mk])
 k:H mk=some (.tup (marks.map Vn))
theorem WhAt.same{H H':Hp}{wh fa mk:Addr}{few root:Nat}{marks:List Nat}(h:WhAt H wh fa mk few root marks)(s:Same H H'):WhAt H' wh fa mk few root marks:=⟨s _ _ h.w,s _ _ h.k⟩
theorem WhAt.x{pu g:Addr}{H H':Hp}{wh fa mk:Addr}{few root:Nat}{marks:List Nat}(h:WhAt H wh fa mk few root marks)(n1:wh≠pu/\wh≠g)(n2:mk≠pu/\mk≠g)(s:yar pu g H H'):WhAt H' wh fa mk few root marks:=⟨s _ _ n1.1 n1.2 h.w,s _ _ n2.1 n2.2 h.k⟩
noncomputable def zbj(p m t:Nat)(H:Hp)(a:Addr):Prop:=∃n x:Nat,H a=some (.tup [Vn n,Vn x])/\Ord p m t x n/\n<=p^m-1/\0<x/\x<p^m
theorem zbj.same{p m t:Nat}{H H':Hp}{a:Addr}(h:zbj p m t H a)(s:Same H H'):zbj p m t H' a:=by obtain⟨n,x,h1,r⟩:=h;exact⟨n,x,s _ _ h1,r⟩
theorem Pu.tup_ne{H:Hp}{pu g a:Addr}{xs:List V}(h:Pu H pu g)(e:H a=some (.tup xs)):a≠pu/\a≠g:=by
 obtain⟨ns,s,t,h1,h2⟩:=h;exact⟨λq=>(by rw[q,h1]at e;cases e),λq=>(by rw[q,h2]at e;cases e)⟩
noncomputable def pn(H:Hp)(a:Addr):Nat:=match H a with
 |some (.tup (.int n::_))=>n.toNat
 |_=>0
theorem zcj{H:Hp}{a:Addr}{n x:Nat}(h:H a=some (.tup [Vn n,Vn x])):pn H a=n:=by unfold pn;rw[h];rfl
theorem ybm{α:Type}{xs:List α}{k:Nat}{a:α}(h:xs[k]?=some a):xs.take (k+1)=xs.take k++[a]:=by
 obtain⟨hk,e⟩:=xAk.mp h;rw[xBi hk,e]
theorem zdF{ts:List Addr}{k:Nat}{z:V}(h:(ts.map V.ref)[k]?=some z):∃a,ts[k]?=some a/\z = .ref a:=by
 rw[xA8]at h;rcases e:ts[k]? with _|a
 ·rw[e]at h;cases h
 ·rw[e]at h;exact⟨a,rfl,(xAv h).symm⟩
noncomputable def zdM:Sp:=λvs H Q _=>∃(pu g:Addr) (most:Nat),vs=[.ref pu,Vn most]/\Pu H pu g/\1<=most/\
 ∀(r tb fa pa la wh mk:Addr) (p m t b few root n:Nat) (marks:List Nat) H',H' r=some (.tup [.ref tb,.ref wh])->Tab H' tb fa pa la p m t b->ygx pu g tb fa pa la->WhAt H' wh fa mk few root marks->(wh≠pu/\wh≠g)->(mk≠pu/\mk≠g)->(r≠pu/\r≠g)->Whl p m t few root n marks->n<=most->Pu H' pu g->yar pu g H H'->Q (.ref r) H'
theorem yai:yah ["_law_purse_here","_law_most","_law_way","_law_far","_law_table_here","_law_fews","_law_few","_law_q","_law_rounds","_law_greatest","_law_n","_law_root","_law_marks","_law_first","_law_many","_law_k"] ["_law_purse_here","_law_most"] (zae zaD):=⟨rfl,rfl,rfl,by decide +kernel,rfl,by decide +kernel,by decide +kernel⟩
theorem yfn(B:Bl mg)(xBD:Has P w K mg base 1 "_law_pick" ["_law_purse_here","_law_many"] ycO)(xBx:Has P w K mg base 4 "_law_field" ["_law_purse_here"] ze0)(xBM:Has P w K mg base 3 "_law_table" ["_law_field_here"] ze5)(xBI:Has P w K mg base 1 "_law_raised" ["_law_one","_law_many"] zam)
  (xBK:Has P w K mg base 2 "_law_round" ["_law_table_here","_law_one"] ybI) (xBJ:Has P w K mg base 1 "_law_ring" ["_law_i","_law_n","_law_q"] zcw) (F:Fun K "_law_wheel" "_law_wheel" zaD f fd):FnOk P w K mg base CX0 5 f fd ["_law_purse_here","_law_most"] zdM:=by
 refine F.ok yai (λvs H Q E h=>?_) (λcdv A outer s H vs Q E hr h=>?_)
 ·obtain⟨pu,g,most,rfl,_⟩:=h;rfl
 obtain⟨pu,g,most,rfl,hP,hmost,q⟩:=h;refine⟨_,(zab (@ybS _ _ 2 3 _ _ _ _ _ _ _ _ _ _ _ rfl yai.nd rfl rfl (by decide) rfl rfl (zaa (zad xBD hr (by decide) rfl (zaa (pv 0) (zaa yac zac ⋯) ⋯) (by decide) ⋯ ⋯) (zaa (zad xBD hr (by decide) rfl (zaa (pv 0) (zaa yac zac ⋯) ⋯) (by decide) ⋯ ⋯) zac ⋯) ⋯) rfl ⋯) (zab (@zag _ _ 4 _ _ _ _ yai.nd rfl (Or.inr rfl) (zad xBM hr (by decide) rfl (zaa (zad xBx hr (by decide) rfl (zaa (pv 0) zac ⋯) (by decide) ⋯ ⋯) zac ⋯) (by decide) ⋯ ⋯) ⋯ (by trivial)) (zab (@zcE _ 5 _ _ _ _ _ _ _ _ _ ["_law_few"] ["_law_table_here"] [4] _ _ _ _ yai.nd rfl (Or.inl rfl) (id (α:=CSc ["_law_purse_here","_law_most","_law_way","_law_far","_law_table_here","_law_fews","_law_few","_law_q","_law_rounds","_law_greatest","_law_n","_law_root","_law_marks","_law_first","_law_many","_law_k"] (zae zaD) ["_law_few"] ["_law_table_here"] [4] _) ⟨by rfl,by decide +kernel,by decide +kernel,by decide +kernel,by decide +kernel,by rfl,by decide +kernel⟩) rfl (@yb2 _ _ _ _ _ _ _ rfl (B "range" (by decide)) (zaa yac (zaa (zaf zau (@zaB _ _ _ _ _ _ (zbq hr) (pv 4) zaH (λ_ _=>rfl)) yac) zac ⋯) ⋯) ⋯ ⋯) (λcl C fp s H=>(@yae _ _ 0 _ (by show List.Nodup (["_law_few","_law_table_here"]:List Str);decide +kernel) rfl (Or.inl rfl) (by trivial))) (λ_ _ _ _ _=>(@zbz _ _ _ (@zai _ _ _ _ _ _ _ _ ya9 (zaf yaz (@zaB _ _ _ _ _ _ (zbq hr) (pv 1) zaH (λ_ _=>rfl)) (pv 0)) yac (yak _)))) (λ_ _ _ _ _=>(pv 0)) ⋯ (by intro _;rfl) (by trivial)) (zab (@zag _ _ 6 _ _ _ _ yai.nd rfl (Or.inl rfl) (zan zao (pv 5) (zad xBD hr (by decide) rfl (zaa (pv 0) (zaa (zal zaj rfl (B "len" (by decide)) xAT (zaa (pv 5) zac ⋯) (by decide) (by decide) ⋯ ⋯) zac ⋯) ⋯) (by decide) ⋯ ⋯) (λ_ _=>rfl)) ⋯ (by trivial)) (zab (@zag _ _ 7 _ _ _ _ yai.nd rfl (Or.inl rfl) (zad xBI hr (by decide) rfl (zaa (@zaB _ _ _ _ _ _ (zbq hr) (pv 4) zaH (λ_ _=>rfl)) (zaa (pv 6) zac ⋯) ⋯) (by decide) ⋯ ⋯) ⋯ (by trivial)) (zab (@zcE _ 8 _ _ _ _ _ _ _ _ _ ["_law_one"] ["_law_table_here"] [4] _ _ _ _ yai.nd rfl (Or.inl rfl) (id (α:=CSc ["_law_purse_here","_law_most","_law_way","_law_far","_law_table_here","_law_fews","_law_few","_law_q","_law_rounds","_law_greatest","_law_n","_law_root","_law_marks","_law_first","_law_many","_law_k"] (zae zaD) ["_law_one"] ["_law_table_here"] [4] _) ⟨by rfl,by decide +kernel,by decide +kernel,by decide +kernel,by decide +kernel,by rfl,by decide +kernel⟩) rfl (@yb2 _ _ _ _ _ _ _ rfl (B "range" (by decide)) (zaa yac (zaa (@zaB _ _ _ _ _ _ (zbq hr) (pv 4) zaH (λ_ _=>rfl)) zac ⋯) ⋯) ⋯ ⋯) (λcl C fp s H=>(@yae _ _ 0 _ (by show List.Nodup (["_law_one","_law_table_here"]:List Str);decide +kernel) rfl (Or.inl rfl) (by trivial))) (λ_ _ _ _ _=>zaM) (λ_ _ _ _ _=>(@zaP _ _ _ _ _ (zaa (zad xBK hr (by decide) rfl (zaa (pv 1) (zaa (pv 0) zac ⋯) ⋯) (by decide) ⋯ ⋯) (zaa (pv 0) zac ⋯) ⋯))) ⋯ (by intro _;rfl) (by trivial)) (zab (@zcE _ 8 _ _ _ _ _ _ _ _ _ ["_law_pair"] ["_law_most"] [1] _ _ _ _ yai.nd rfl (Or.inl rfl) (id (α:=CSc ["_law_purse_here","_law_most","_law_way","_law_far","_law_table_here","_law_fews","_law_few","_law_q","_law_rounds","_law_greatest","_law_n","_law_root","_law_marks","_law_first","_law_many","_law_k"] (zae zaD) ["_law_pair"] ["_law_most"] [1] _) ⟨by rfl,by decide +kernel,by decide +kernel,by decide +kernel,by decide +kernel,by rfl,by decide +kernel⟩) rfl (@yaN _ _ _ _ (pv 8)) (λcl C fp s H=>(@yae _ _ 0 _ (by show List.Nodup (["_law_pair","_law_most"]:List Str);decide +kernel) rfl (Or.inl rfl) (by trivial))) (λ_ _ _ _ _=>(@zbz _ _ _ (@zai _ _ _ _ _ _ _ _ yiq (zan (zeE (K:=K) rfl) (pv 0) yac (λ_ _=>rfl)) (pv 1) (yak _)))) (λ_ _ _ _ _=>(pv 0)) ⋯ (by intro _;rfl) (by trivial)) (zab (@zag _ _ 9 _ _ _ _ yai.nd rfl (Or.inr rfl) (zal (yft rfl) rfl (B "max" (by decide)) ycC (zaa (@yaF _ _ _ _ _ _ _ ["_law_pair"] [] [] _ _ _ _ (id (α:=CSc ["_law_purse_here","_law_most","_law_way","_law_far","_law_table_here","_law_fews","_law_few","_law_q","_law_rounds","_law_greatest","_law_n","_law_root","_law_marks","_law_first","_law_many","_law_k"] (zae zaD) ["_law_pair"] [] [] _) ⟨by rfl,by decide +kernel,by decide +kernel,by decide +kernel,by decide +kernel,by rfl,by decide +kernel⟩) rfl (@yaN _ _ _ _ (pv 8)) (λcl C fp s H=>(@yae _ _ 0 _ (by show List.Nodup (["_law_pair"]:List Str);decide +kernel) rfl (Or.inl rfl) (by trivial))) (λ_ _ _ _ _=>zaM) (λ_ _ _ _ _=>(zan (zeE (K:=K) rfl) (pv 0) yac (λ_ _=>rfl))) (by intro _;rfl)) zac ⋯) (by decide) (by decide) ⋯ ⋯) ⋯ (by trivial)) (zab (@za3 _ _ _ _ _ _ _ _ (@zai _ _ _ _ _ _ _ _ ybU (pv 3) yac (yak _)) (yad (@zcE _ 8 _ _ _ _ _ _ _ _ _ ["_law_pair"] ["_law_greatest"] [9] _ _ _ _ yai.nd rfl (Or.inl rfl) (id (α:=CSc ["_law_purse_here","_law_most","_law_way","_law_far","_law_table_here","_law_fews","_law_few","_law_q","_law_rounds","_law_greatest","_law_n","_law_root","_law_marks","_law_first","_law_many","_law_k"] (zae zaD) ["_law_pair"] ["_law_greatest"] [9] _) ⟨by rfl,by decide +kernel,by decide +kernel,by decide +kernel,by decide +kernel,by rfl,by decide +kernel⟩) rfl (@yaN _ _ _ _ (pv 8)) (λcl C fp s H=>(@yae _ _ 0 _ (by show List.Nodup (["_law_pair","_law_greatest"]:List Str);decide +kernel) rfl (Or.inl rfl) (by trivial))) (λ_ _ _ _ _=>(@zbz _ _ _ (@zai _ _ _ _ _ _ _ _ ya9 (zan (zeE (K:=K) rfl) (pv 0) yac (λ_ _=>rfl)) (pv 1) (yak _)))) (λ_ _ _ _ _=>(pv 0)) ⋯ (by intro _;rfl) (by trivial))) zaw) (zab (@yaU _ _ _ _ _ _ (zan zao (pv 8) (zad xBD hr (by decide) rfl (zaa (pv 0) (zaa (zal zaj rfl (B "len" (by decide)) xAT (zaa (pv 8) zac ⋯) (by decide) (by decide) ⋯ ⋯) zac ⋯) ⋯) (by decide) ⋯ ⋯) (λ_ _=>rfl)) (@za2 _ _ _ _ _ _ rfl (zah (@yae _ _ 10 _ yai.nd rfl (Or.inl rfl) (by trivial)) (zah (@yae _ _ 11 _ yai.nd rfl (Or.inl rfl) (by trivial)) zaE ⋯) ⋯) ⋯ ⋯) ⋯ ⋯ ⋯) (zab (@zag _ _ 12 _ _ _ _ yai.nd rfl (Or.inl rfl) (@yaA _ _ _ _ zac) ⋯ (by trivial)) (zab (@za3 _ _ _ _ _ _ _ _ (@zai _ _ _ _ _ _ _ _ ya9 (pv 2) yac (yak _)) (yad (@zag _ _ 12 _ _ _ _ yai.nd rfl (Or.inl rfl) (zap (zb9 rfl) rfl (B "list" (by decide)) za0 (zaa (@zcG _ _ _ _ _ rfl (B "range" (by decide)) (zaa (pv 10) zac ⋯) ⋯) zac ⋯) (by decide) (by decide) ⋯ ⋯) ⋯ (by trivial))) (yad (@za3 _ _ _ _ _ _ _ _ (@zai _ _ _ _ _ _ _ _ ya9 (pv 2) yac (yak _)) (yad (@zag _ _ 12 _ _ _ _ yai.nd rfl (Or.inl rfl) (zad xBJ hr (by decide) rfl (zaa (zad xBD hr (by decide) rfl (zaa (pv 0) (zaa (pv 10) zac ⋯) ⋯) (by decide) ⋯ ⋯) (zaa (pv 10) (zaa (pv 7) zac ⋯) ⋯) ⋯) (by decide) ⋯ ⋯) ⋯ (by trivial))) (yad (@za3 _ _ _ _ _ _ _ _ (@zai _ _ _ _ _ _ _ _ ybU (pv 2) yac (yak _)) (zab (@ybS _ _ 13 14 _ _ _ _ _ _ _ _ _ _ _ rfl yai.nd rfl rfl (by decide) rfl rfl (zaa (zad xBD hr (by decide) rfl (zaa (pv 0) (zaa (pv 10) zac ⋯) ⋯) (by decide) ⋯ ⋯) (zaa (zad xBD hr (by decide) rfl (zaa (pv 0) (zaa (pv 10) zac ⋯) ⋯) (by decide) ⋯ ⋯) zac ⋯) ⋯) rfl ⋯) (yad (@yaC _ _ _ _ _ _ _ _ xAl rfl (@yaK _ _ _ _ _ _ rfl (B "range" (by decide)) (zaa (pv 14) zac ⋯) ⋯) (@yae _ _ 15 _ yai.nd rfl (Or.inl rfl) (by trivial)) (yad (@za3 _ _ _ _ _ _ _ _ (@PW.pt _ _ _ (@zfu _ _ _ _ _ _ _ (@zai _ _ _ _ _ _ _ _ ybU (pv 2) yac (yak _)) (@zdS _ _ _ _ (@zai _ _ _ _ _ _ _ _ ya9 (zad xBD hr (by decide) rfl (zaa (pv 0) (zaa yac zac ⋯) ⋯) (by decide) ⋯ ⋯) yac (yak _))))) (yad (@zag _ _ 12 _ _ _ _ yai.nd rfl (Or.inl rfl) (zaf zc8 (pv 12) (zad xBJ hr (by decide) rfl (zaa (zaf zau (pv 13) (pv 15)) (zaa (pv 10) (zaa (pv 7) zac ⋯) ⋯) ⋯) (by decide) ⋯ ⋯)) ⋯ (by trivial))) zaw)) (by intro _;rfl)))) zaw))))) (yad (@yaj _ _ _ _ (@zaP _ _ _ _ _ (zaa (pv 4) (zaa (@zaP _ _ _ _ _ (zaa (@zaB _ _ _ _ _ _ (zbq hr) (pv 4) zaH (λ_ _=>rfl)) (zaa (pv 6) (zaa (pv 11) (zaa (zap yap rfl (B "tuple" (by decide)) zaq (zaa (@yfh _ _ _ _ _ _ _ rfl rfl (B "sorted" (by decide)) rfl (B "set" (by decide)) (pv 12) ⋯ ⋯) zac ⋯) (by decide) (by decide) ⋯ ⋯) zac ⋯) ⋯) ⋯) ⋯)) zac ⋯) ⋯)))))))))))))))),?_⟩
 refine⟨_,rfl,pu,g,6,rfl,hP,by lia,by lia,λway H1 hway hP1 sx1=>?_⟩;refine⟨_,rfl,pu,g,3,rfl,hP1,by lia,by lia,λfar H2 hfar hP2 sx2=>?_⟩;refine⟨_,_,rfl,?_⟩;refine⟨_,rfl,pu,g,rfl,hP2,λfa p m t H3 nf1 nf2 nf ef G hP3 sx3=>?_⟩;refine⟨fa,p,m,t,rfl,ef,G,λtb pa la b H4 ntb npa nla T4 s4=>?_⟩;have hP4:=hP3.same s4;have ap:ygx pu g tb fa pa la:=⟨(hP3.lt ntb).1,(hP3.lt ntb).2,nf1,nf2,(hP3.lt npa).1,(hP3.lt npa).2,(hP3.lt nla).1,(hP3.lt nla).2⟩
 have sx4:=(sx1.trans (sx2.trans sx3)).trans (Same.x s4);have hp:=G.hp;have hm:=G.hm;have hQ:=G.hq;have hQ2:=zax hp hm;have hm6:=m_le hp hQ;refine⟨_,rfl,tb,_,rfl,T4.get zhN,_,_,rfl,rfl,?_⟩;refine⟨1,((m+1:Nat):Int),rfl,by lia,?_⟩;refine yav zbn (λk acc H'=>H'=H4/\∃fs:List Nat,acc=fs.map Vn/\(∀f∈fs,1<=f/\m%f=0)/\fs.length<=k/\(0<k->0<fs.length)) ⟨rfl,([]:List Nat),rfl,λf hf=>absurd hf (by simp),xA4 _,λh=>absurd h (Nat.lt_irrefl _)⟩ (λ_ _ _ _ _=>trivial) ?_ ?_ ?_
 ·rintro k acc H' hk ⟨_,fs,rfl,_,hl,_⟩;rw[xA0];exact yao (by lia)
 ·rintro k acc x H' H'' hk ⟨rfl,fs,rfl,hfs,hl,h0⟩ ⟨rfl,rfl⟩;refine⟨_,rfl,tb,_,rfl,T4.get zhN,_,rfl,_,_,rfl,rfl,by show(0:Int)<1+(k:Int);lia,rfl,_,rfl,?_⟩;have ed:decide (V.int ((m:Int)%(1+(k:Int)))=V.int 0)=decide (m%(1+k)=0):=by rw[show(1+(k:Int))=((1+k:Nat):Int) by lia];exact ygA _ _
  refine ite2 (λc=>?_) (λc=>?_)
  ·have c1:m%(1+k)=0:=by rw[ed]at c;exact xAj c
   refine⟨_,rfl,rfl,fs++[1+k],?_,?_,by simp;lia,λ_=>by simp⟩
   ·rw[xAe,show V.int (1+(k:Int))=Vn (1+k) from ydv (by lia)];rfl
   ·intro f hf;rcases xAE.mp hf with h|h
    ·exact hfs f h
    ·cases xAA.mp h;exact⟨by lia,c1⟩
  ·refine⟨rfl,fs,rfl,hfs,by lia,λ_=>?_⟩;by_cases c0:k=0
   ·subst c0;refine absurd ?_ c;rw[ed,xAG (by show m%1=0;exact Nat.mod_one m)]
   ·exact h0 (by lia)
 rintro acc H5 ⟨rfl,fs,rfl,hfs,hfl,hf0⟩ fl hfl';have hfl2:fs.length<=m:=by lia
 have hf1:0<fs.length:=hf0 (by lia);have s5:=yab hfl' (.lst (fs.map Vn));have T5:=T4.same s5;have hP5:=hP4.same s5;have nfl:=hP4.lt hfl';have e5:upd H5 fl (.lst (fs.map Vn)) fl=some (.lst (fs.map Vn)):=yaa;have sx5:=sx4.trans (Same.x s5);dsimp only[yau];generalize upd H5 fl (.lst (fs.map Vn))=H5' at s5 T5 hP5 e5 sx5 ⊢;refine⟨_,rfl,_,rfl,_,rfl,fl,_,rfl,.inl (SqL.of e5),?_⟩;refine⟨pu,g,fs.length,by rw[xA0];rfl,hP5,hf1,by lia,λfi H6 hfi hP6 sx6=>?_⟩;have hfew:=hfs (fs.getD fi 0) (by
  have:=xBp hfi
  rwa [show fs.getD fi 0=fs[fi] by simp[List.getD,hfi]])
 have e6:=sx6 _ _ nfl.1 nfl.2 e5;have sx6':=sx5.trans sx6;refine⟨fl,_,_,Vn (fs.getD fi 0),rfl,rfl,SqL.of e6,zaN (zav hfi),?_⟩;generalize fs.getD fi 0=few at hfew ⊢;have hfewm:few<=m:=Nat.le_of_dvd (by lia) (xBj hfew.2);have T6:=T5.x ap sx6;dsimp only[yau];refine⟨_,rfl,tb,_,rfl,T6.get zf8,_,rfl,p,few,rfl,p_le hp hm hQ,by lia,?_⟩;have hqq:p^few<=64:=xAB (xAI (by lia) hfewm) hQ;dsimp only[yau];refine⟨_,rfl,tb,_,rfl,T6.get zcq,?_⟩;refine⟨1,((p^m:Nat):Int),rfl,by lia,?_⟩;refine yav zbn (λk acc H'=>Same H6 H'/\∃ts:List Addr,acc=ts.map V.ref/\ts.length=k/\(∀a∈ts,zbj p m t H' a)/\(0<k->∃a∈ts,pn H' a=1)) ⟨Same.refl _,([]:List Addr),rfl,rfl,λa ha=>absurd ha (by simp),λh=>absurd h (Nat.lt_irrefl _)⟩ (λ_ _ _ _ _=>trivial) ?_ ?_ ?_
 ·rintro k acc H' hk ⟨_,ts,rfl,hl,_⟩;rw[xA0,hl];exact yao (by lia)
 ·rintro k acc x H' H'' hk ⟨s',ts,rfl,hl,hts,h1⟩ ⟨rfl,rfl⟩;have hk2:1+k<p^m:=by lia
  refine⟨_,rfl,_,rfl,tb,fa,pa,la,p,m,t,b,1+k,?_,T6.same s',by lia,hk2,λn o hn=>?_⟩
  ·rw[show(1+(k:Int))=((1+k:Nat):Int) by lia];rfl
  refine⟨_,rfl,szl 2,λa ha=>?_⟩;have sn:=yab ha (.tup [Vn n,.int (1+(k:Int))]);have en:upd H'' a (.tup [Vn n,.int (1+(k:Int))]) a=some (.tup [Vn n,Vn (1+k)]):=by rw[yaa];congr 1
  refine⟨s'.trans sn,ts++[a],by rw[xAe];rfl,by simp[hl],?_,?_⟩
  ·intro a' ha';rcases xAE.mp ha' with h|h
   ·exact(hts a' h).same sn
   ·cases xAA.mp h;exact⟨n,1+k,en,o,hn,by lia,hk2⟩
  ·intro _;by_cases c0:k=0
   ·subst c0;refine⟨a,by simp,?_⟩;rw[zcj en];have h2:=o.pos;have h3:=o.le (k:=1) (by lia) (by rw[ybR hp hm (by lia)]);lia
   ·obtain⟨a',ha',e'⟩:=h1 (by lia);obtain⟨n',x',hx',_⟩:=hts a' ha';exact⟨a',xAK _ ha',by rw[zcj (sn _ _ hx'),<-zcj hx'];exact e'⟩
 rintro acc H7 ⟨s7,ts,rfl,htl,hts,hone⟩ rl hrl;have htl2:ts.length=p^m-1:=by
  rw[htl,show((p^m:Nat):Int)-1=((p^m-1:Nat):Int) by lia];rfl
 obtain⟨a1,ha1,ea1⟩:=hone (by lia);have s7':=s7.trans (yab hrl (.lst (ts.map V.ref)));have T7:=T6.same s7';have hP7:=hP6.same s7';have nrl:=(hP6.same s7).lt hrl;have e7:upd H7 rl (.lst (ts.map V.ref)) rl=some (.lst (ts.map V.ref)):=yaa;have hts7:∀a∈ts,zbj p m t (upd H7 rl (.lst (ts.map V.ref))) a:=λa ha=>(hts a ha).same (yab hrl _)
 have ea7:pn (upd H7 rl (.lst (ts.map V.ref))) a1=1:=by
  obtain⟨n',x',hx',_⟩:=hts a1 ha1;rw[zcj (yab hrl _ _ _ hx'),<-zcj hx'];exact ea1
 have sx7:=sx6'.trans (Same.x s7');dsimp only[yau];generalize upd H7 rl (.lst (ts.map V.ref))=H8 at s7' T7 hP7 e7 hts7 ea7 sx7 ⊢;refine⟨_,rfl,rl,rfl,⟨_,SqL.of e7⟩,?_⟩;refine yav (yaE (xs:=ts.map V.ref)) (λk acc H'=>H'=H8/\acc=((ts.take k).filter λa=>decide (pn H8 a<=most)).map V.ref) ⟨rfl,rfl⟩ (λi acc H' _ h=>h.1 ▸ SqL.of e7) ?_ ?_ ?_
 ·rintro k acc H' hk ⟨_,rfl⟩;have:=List.length_filter_le (λa=>decide (pn H8 a<=most)) (ts.take k);rw[xAC]at this;rw[xA0];exact yao (by lia)
 ·rintro k acc z H' H'' hk ⟨rfl,rfl⟩ ⟨rfl,ez⟩;obtain⟨a,ea,rfl⟩:=zdF ez;obtain⟨n,x,hx,_⟩:=hts7 a (xBc ea);refine⟨_,rfl,a,_,_,Vn n,rfl,rfl,SqT.of hx,rfl,_,rfl,_,_,rfl,rfl,_,rfl,?_⟩;rw[ybm ea,List.filter_append];refine ite2 (λc=>?_) (λc=>?_)
  ·have c1:n<=most:=by have:=xAj c;lia
   refine⟨_,rfl,rfl,?_⟩;rw[xAe];simp[zcj hx,c1]
  ·have c1:¬ n<=most:=λh=>c (xAG (by lia))
   refine⟨rfl,?_⟩;simp[zcj hx,c1]
 rw[xA0];rintro acc H9 ⟨rfl,rfl⟩ r2 hr2;rw[xAJ];obtain⟨us,hus⟩:∃us,us=ts.filter λa=>decide (pn H9 a<=most):=⟨_,rfl⟩
 rw[<-hus];have hu1:∀a∈us,zbj p m t H9 a/\pn H9 a<=most:=λa ha=>by
  rw[hus]at ha;have:=List.mem_filter.mp ha;exact⟨hts7 a this.1,xAj this.2⟩
 have hu0:a1∈us:=by rw[hus];exact List.mem_filter.mpr ⟨ha1,xAG (by rw[ea7];exact hmost)⟩
 have hul:us.length<=63:=by
  have:=List.length_filter_le (λa=>decide (pn H9 a<=most)) ts;rw[<-hus]at this;lia
 clear hus;have pk:∀ {H H':Hp},Same H H'->∀a,zbj p m t H a->pn H' a=pn H a:=λs a ⟨n,x,h,_⟩=>by rw[zcj (s _ _ h),zcj h]
 have s9:=yab hr2 (.lst (us.map V.ref));have T9:=T7.same s9;have hP9:=hP7.same s9;have n2:=hP7.lt hr2;have e9:upd H9 r2 (.lst (us.map V.ref)) r2=some (.lst (us.map V.ref)):=yaa;have hu9:∀a∈us,zbj p m t (upd H9 r2 (.lst (us.map V.ref))) a/\pn (upd H9 r2 (.lst (us.map V.ref))) a<=most:=λa ha=>⟨(hu1 a ha).1.same s9,by rw[pk s9 a (hu1 a ha).1];exact(hu1 a ha).2⟩
 have sx9:=sx7.trans (Same.x s9);dsimp only[yau];generalize upd H9 r2 (.lst (us.map V.ref))=HA at s9 T9 hP9 e9 hu9 sx9 ⊢;refine⟨_,rfl,r2,rfl,⟨_,SqL.of e9⟩,?_⟩;refine yav (yaE (xs:=us.map V.ref)) (λk acc H'=>H'=HA/\acc=((us.take k).map (pn HA)).map Vn) ⟨rfl,rfl⟩ (λi acc H' _ h=>h.1 ▸ SqL.of e9) ?_ ?_ ?_
 ·rintro k acc H' hk ⟨_,rfl⟩;rw[xA0,xA0,xAC];exact yao (by lia)
 ·rintro k acc z H' H'' hk ⟨rfl,rfl⟩ ⟨rfl,ez⟩;obtain⟨a,ea,rfl⟩:=zdF ez;obtain⟨⟨n,x,hx,_⟩,_⟩:=hu9 a (xBc ea);refine⟨_,rfl,a,_,_,Vn n,rfl,rfl,SqT.of hx,rfl,rfl,?_⟩;rw[ybm ea,xAe,xAe,show [a].map (pn H'')=[n] by rw[List.map_singleton,zcj hx]];rfl
 rw[xA0];rintro acc HB ⟨rfl,rfl⟩ gl' hgl';rw[xAJ];refine⟨gl',(us.map (pn HB)).map (λn:Nat=>(n:Int)),rfl,SqL.of (by rw[mapI];exact yaa),by rw[xA0,xA0];exact List.length_pos_of_mem hu0,λM hM1 hM2=>?_⟩;obtain⟨M,hM,rfl⟩:=xAg.mp hM1;obtain⟨aM,haM,eM⟩:=xAg.mp hM;have sB:=yab hgl' (.lst ((us.map (pn HB)).map Vn));have TB:=T9.same sB;have hPB:=hP9.same sB;have eB:=sB _ _ e9;have huB:∀a∈us,zbj p m t (upd HB gl' (.lst ((us.map (pn HB)).map Vn))) a/\pn (upd HB gl' (.lst ((us.map (pn HB)).map Vn))) a<=most:=λa ha=>⟨(hu9 a ha).1.same sB,by rw[pk sB a (hu9 a ha).1];exact(hu9 a ha).2⟩
 have eMB:pn (upd HB gl' (.lst ((us.map (pn HB)).map Vn))) aM=M:=by rw[pk sB aM (hu9 aM haM).1];exact eM
 have sxB:=sx9.trans (Same.x sB);dsimp only[yau];generalize upd HB gl' (.lst ((us.map (pn HB)).map Vn))=HC at sB TB hPB eB huB eMB sxB ⊢;change tSeq (tIfS _ _ _) _ _ _ _;refine za9 (λσ H'=>∃(rr:Addr) (ws:List Addr),Same HC H'/\H' rr=some (.lst (ws.map V.ref))/\(rr≠pu/\rr≠g)/\0<ws.length/\ws.length<=63/\(∀a∈ws,zbj p m t H' a/\pn H' a<=most)/\
  σ=[some (.ref pu),some (Vn most),some (Vn way),some (Vn far),some (.ref tb),some (.ref fl),some (Vn few),some (Vn (p^few)),some (.ref rr),some (Vn M),none,none,none,none,none,none]) ?_ ?_
 ·rintro σ HE ⟨rr,ws,sE,eE,nrr,hw0,hw1,hws,rfl⟩;have TE:=TB.same sE;have hPE:=hPB.same sE;have sxE:=sxB.trans (Same.x sE);refine⟨_,rfl,_,rfl,_,rfl,rr,_,rfl,.inl (SqL.of eE),?_⟩;refine⟨pu,g,ws.length,by rw[xA0];rfl,hPE,hw0,by lia,λwi HF hwi hPF sxF=>?_⟩;have hwm:ws[wi]∈ws:=xBp hwi;obtain⟨⟨n,root,hpr,ord,hnq,r0,rq⟩,hmo⟩:=hws _ hwm;rw[zcj hpr]at hmo;have npr:=hPE.tup_ne hpr;have hprF:=sxF _ _ npr.1 npr.2 hpr;have eF:=sxF _ _ nrr.1 nrr.2 eE;have TF:=TE.x ap sxF;have sxF':=sxE.trans sxF;have hn0:=ord.pos;refine⟨rr,_,_,.ref ws[wi],rfl,rfl,SqL.of eF,zaN (by rw[xA8,xA5 hwi];rfl),?_⟩;refine⟨ws[wi],_,rfl,SqT.of hprF,rfl,_,_,rfl,_,_,rfl,rfl,?_⟩;refine⟨szl 0,λm0 hm0=>?_⟩;have sG:=yab hm0 (.lst []);have hPG:=hPF.same sG;have nm0:=hPF.lt hm0;have eG:upd HF m0 (.lst []) m0=some (.lst (([]:List Nat).map Vn)):=yaa;have TG:=TF.same sG;have sxG:=sxF'.trans (Same.x sG);dsimp only[yau];generalize upd HF m0 (.lst [])=HG at sG hPG eG TG sxG ⊢;have hrnd:=Ord.round G r0 rq ord hfew.2 hfew.1;have hme:1<=m/few:=Nat.div_pos hfewm hfew.1;have hme2:m/few<=6:=xAB (Nat.div_le_self _ _) hm6;change tSeq (tIfS _ _ _) _ _ _ _;refine za9 (λσ H'=>Pu H' pu g/\yar pu g HG H'/\∃(ml:Addr) (ns:List Nat) (s13 s14 s15:Option V),H' ml=some (.lst (ns.map Vn))/\(ml≠pu/\ml≠g)/\ns.length<=400/\(∀x∈ns,x<n)/\(∀x∈ns,x*p^few%n∈ns)/\
   σ=[some (.ref pu),some (Vn most),some (Vn way),some (Vn far),some (.ref tb),some (.ref fl),some (Vn few),some (Vn (p^few)),some (.ref rr),some (Vn M),some (Vn n),some (Vn root),some (.ref ml),s13,s14,s15]) ?_ ?_
  ·rintro σ HI ⟨hPI,sxI,ml,ns,s13,s14,s15,eI,nml,hnl,hnn,hnc,rfl⟩;have TI:=TG.x ap sxI;refine⟨_,rfl,_,rfl,tb,_,rfl,TI.get yfS,_,rfl,_,rfl,_,rfl,ml,ns.map (λn:Nat=>(n:Int)),rfl,SqL.of (by rw[mapI];exact eI),by rw[xA0];lia,?_,?_⟩
   ·intro ks hks hsub;have:=ycX (τ:=(List.range n).map λi:Nat=>(i:Int)) hks λk hk=>by
     obtain⟨x,hx,rfl⟩:=xAg.mp (hsub k hk);exact xAg.mpr ⟨x,xAw.mpr (hnn x hx),rfl⟩
    rw[xA0,xAr]at this;lia
   ·intro l2 ns' hl2 hasc hmem;obtain⟨marks,hmk⟩:∃marks:List Nat,ns'=marks.map λx:Nat=>(x:Int):=by
     refine⟨ns'.map Int.toNat,?_⟩;rw[List.map_map]
     conv=>lhs;rw[<-List.map_id ns']
     refine xAy λk hk=>?_
     obtain⟨x,_,rfl⟩:=xAg.mp ((hmem k).mp hk);rfl
    subst hmk;have hmm:∀x:Nat,x∈marks↔x∈ns:=λx=>by
     have:=hmem (x:Int);constructor
     ·intro h;obtain⟨y,hy,e⟩:=xAg.mp (this.mp (List.mem_map_of_mem h));rw[<-Int.ofNat.inj e];exact hy
     ·intro h;obtain⟨y,hy,e⟩:=xAg.mp (this.mpr (List.mem_map_of_mem h));rw[<-Int.ofNat.inj e];exact hy
    have hasc2:marks.Pairwise (· < ·):=by
     rw[List.pairwise_map]at hasc;exact hasc.imp λh=>by lia
    rw[mapI];have s2:=yab hl2 (.lst (marks.map Vn));refine⟨l2,_,rfl,.inl ⟨SqL.of yaa,λmk hmk=>?_⟩⟩;have s3:=yab hmk (.tup (marks.map Vn));refine⟨szl 4,λwh hwh=>?_⟩;have s4':=yab hwh (.tup [.ref fa,Vn few,Vn root,.ref mk]);refine⟨szl 2,λr hr=>?_⟩;have s5':=yab hr (.tup [.ref tb,.ref wh]);have hP2':=hPI.same s2;have hP3':=hP2'.same s3;have hP4':=hP3'.same s4';refine q r tb fa pa la wh mk p m t b few root n marks _ yaa ((((TI.same s2).same s3).same s4').same s5') ap ⟨s5' _ _ yaa,s5' _ _ (s4' _ _ yaa)⟩ (hP3'.lt hwh) (hP2'.lt hmk) (hP4'.lt hr) ⟨hfew.1,hfew.2,r0,rq,ord,hnq,hasc2,λx hx=>hnn x ((hmm x).mp hx),λx hx=>(hmm _).mpr (hnc x ((hmm x).mp hx))⟩ hmo (hP4'.same s5') ?_;exact(sxG.trans sxI).trans (Same.x (((s2.trans s3).trans s4').trans s5'))
  ·intro D' _ _ _ hD';refine⟨_,rfl,rfl,_,rfl,?_⟩;refine ite2 (λc=>?_) (λc=>?_)
   ·refine⟨_,rfl,(n:Int),rfl,λrg hrg=>⟨rg,0,(n:Int),rfl,yaa,by lia,by rw[show((n:Int)-0).toNat=n by lia];exact szl _ (by lia),λl hl=>?_⟩⟩;have s1':=yab hrg (.rng 0 (n:Int));have e1:L2.intsFrom 0 ((n:Int)-0).toNat=(List.range n).map Vn:=by
     rw[show((n:Int)-0).toNat=n by lia];unfold L2.intsFrom;refine xAy λi _=>?_
     rw[Int.zero_add]
    rw[e1];have s2':=yab hl (.lst ((List.range n).map Vn));exact hD' _ _ ⟨(hPG.same s1').same s2',Same.x (s1'.trans s2'),l,List.range n,_,_,_,yaa,(hPG.same s1').lt hl,by rw[xAr];lia,λx hx=>xAw.mp hx,λx _=>xAw.mpr (xAR _ (by lia)),rfl⟩
   ·refine⟨_,rfl,rfl,_,rfl,?_⟩;refine ite2 (λc=>?_) (λc=>?_)
    ·refine⟨_,rfl,_,rfl,pu,g,n,rfl,hPG,by lia,by lia,λi HJ hi hPJ sxJ=>?_⟩;refine⟨_,rfl,_,rfl,i,n,p^few,m/few,rfl,by lia,by lia,hqq,hme,hme2,hrnd,λr ns HK sK nr er h1 h2 h3 h4 _ _ _=>?_⟩;exact hD' _ _ ⟨hPJ.same sK,sxJ.trans (Same.x sK),r,ns,_,_,_,er,hPJ.lt nr,by lia,h3,h4,rfl⟩
    ·refine⟨_,rfl,_,_,rfl,rfl,_,rfl,?_⟩;refine ite2 (λc=>?_) (λc=>?_)
     ·refine⟨_,rfl,_,rfl,pu,g,n,rfl,hPG,by lia,by lia,λfirst HJ hfi hPJ sxJ=>?_⟩;refine⟨_,rfl,_,rfl,pu,g,n,rfl,hPJ,by lia,by lia,λmany HK hma hPK sxK=>?_⟩;refine⟨_,_,rfl,?_⟩;refine⟨_,rfl,many,rfl,by lia,by lia,?_⟩;have eK:=sxK _ _ nm0.1 nm0.2 (sxJ _ _ nm0.1 nm0.2 eG);refine zaR (n:=many) (λk σ H'=>Pu H' pu g/\yar pu g HG H'/\∃(ml:Addr) (ns:List Nat) (s15:Option V),H' ml=some (.lst (ns.map Vn))/\(ml≠pu/\ml≠g)/\ns.length<=6*k/\(∀x∈ns,x<n)/\(∀x∈ns,x*p^few%n∈ns)/\
       σ=[some (.ref pu),some (Vn most),some (Vn way),some (Vn far),some (.ref tb),some (.ref fl),some (Vn few),some (Vn (p^few)),some (.ref rr),some (Vn M),some (Vn n),some (Vn root),some (.ref ml),some (Vn first),some (Vn many),s15])
       ⟨hPK,sxJ.trans sxK,m0,[],_,eK,nm0,by decide,λx hx=>absurd hx (by simp),λx hx=>absurd hx (by simp),rfl⟩ ?_ ?_
      ·rintro k σ HL hk ⟨hPL,sxL,ml,ns,s15,eL,nml,hnl,hnn,hnc,rfl⟩;have body:∀HM,Pu HM pu g->yar pu g HL HM->∀Q:V->Hp->Prop,(∀l (ns':List Nat) H',Pu H' pu g->yar pu g HG H'->H' l=some (.lst (ns'.map Vn))->(l≠pu/\l≠g)->ns'.length<=6*(k+1)->(∀x∈ns',x<n)->(∀x∈ns',x*p^few%n∈ns')->Q (.ref l) H')->
         tOp rCat (tVar 12) (zhb zcw [] E0 (zc0 (tOp (rI0 λi j=>V.int (i+j)) (tVar 13) (tVar 15)) (zc0 (tVar 10) (zc0 (tVar 7) tNil)))) [some (.ref pu),some (Vn most),some (Vn way),some (Vn far),some (.ref tb),some (.ref fl),some (Vn few),some (Vn (p^few)),some (.ref rr),some (Vn M),some (Vn n),some (Vn root),some (.ref ml),some (Vn first),some (Vn many),some (.int (0+(k:Int)))] HM Q:=by
        intro HM hPM sxM Q hQ;have eM:=sxM _ _ nml.1 nml.2 eL;refine⟨_,rfl,_,rfl,_,rfl,_,_,rfl,rfl,_,rfl,_,rfl,first+k,n,p^few,m/few,?_,by lia,by lia,hqq,hme,hme2,hrnd,λr rs HN sN nr er h1 h2 h3 h4 _ _ _=>?_⟩
        ·show [V.int ((first:Int)+(0+(k:Int))),Vn n,Vn (p^few)]=[Vn (first+k),Vn n,Vn (p^few)]
         rw[show(first:Int)+(0+(k:Int))=((first+k:Nat):Int) by lia]
        refine⟨ml,r,_,_,rfl,rfl,sN _ _ eM,er,by rw[xA0,xA0];exact szl _ (by lia),λl hl=>?_⟩;rw[<-xAe];have sO:=yab hl (.lst ((ns++rs).map Vn));refine hQ l (ns++rs) _ ((hPM.same sN).same sO) ((sxL.trans sxM).trans (Same.x (sN.trans sO))) yaa ((hPM.same sN).lt hl) (by rw[xAt];lia) (λx hx=>?_) (λx hx=>?_)
        ·rcases xAE.mp hx with h|h
         ·exact hnn x h
         ·exact h3 x h
        ·rcases xAE.mp hx with h|h
         ·exact xAK _ (hnc x h)
         ·exact xAc _ (h4 x h)
       refine⟨_,rfl,_,_,rfl,rfl,_,rfl,?_⟩;refine ite2 (λc=>?_) (λc=>?_)
       ·refine ite2 (λ_=>?_) (λh=>absurd rfl h);exact body HL hPL yar.refl _ λl ns' H' a1 a2 a3 a4 a5 a6 a7=>⟨a1,a2,l,ns',_,a3,a4,a5,a6,a7,rfl⟩
       ·refine⟨_,rfl,pu,g,3,rfl,hPL,by lia,by lia,λv HM hv hPM sxM=>?_⟩;refine⟨rfl,_,rfl,?_⟩;refine ite2 (λ_=>?_) (λ_=>?_)
        ·exact body HM hPM sxM _ λl ns' H' a1 a2 a3 a4 a5 a6 a7=>⟨a1,a2,l,ns',_,a3,a4,a5,a6,a7,rfl⟩
        ·exact⟨hPM,sxL.trans sxM,ml,ns,_,sxM _ _ nml.1 nml.2 eL,nml,by lia,hnn,hnc,rfl⟩
      ·rintro σ HL ⟨hPL,sxL,ml,ns,s15,eL,nml,hnl,hnn,hnc,rfl⟩;exact hD' _ _ ⟨hPL,sxL,ml,ns,_,_,_,eL,nml,by lia,hnn,hnc,rfl⟩
     ·exact hD' _ _ ⟨hPG,yar.refl,m0,[],_,_,_,eG,nm0,by decide,λx hx=>absurd hx (by simp),λx hx=>absurd hx (by simp),rfl⟩
 ·intro D' _ _ _ hD';refine⟨_,rfl,_,_,rfl,rfl,_,rfl,?_⟩;refine ite2 (λc=>?_) (λc=>?_)
  ·refine⟨_,rfl,r2,rfl,⟨_,SqL.of eB⟩,?_⟩;refine yav (yaE (xs:=us.map V.ref)) (λk acc H'=>H'=HC/\acc=((us.take k).filter λa=>decide (pn HC a=M)).map V.ref) ⟨rfl,rfl⟩ (λi acc H' _ h=>h.1 ▸ SqL.of eB) ?_ ?_ ?_
   ·rintro k acc H' hk ⟨_,rfl⟩;have:=List.length_filter_le (λa=>decide (pn HC a=M)) (us.take k);rw[xAC]at this;rw[xA0];exact yao (by lia)
   ·rintro k acc z H' H'' hk ⟨rfl,rfl⟩ ⟨rfl,ez⟩;obtain⟨a,ea,rfl⟩:=zdF ez;obtain⟨⟨n,x,hx,_⟩,_⟩:=huB a (xBc ea);refine⟨_,rfl,a,_,_,Vn n,rfl,rfl,SqT.of hx,rfl,_,rfl,rfl,_,rfl,?_⟩;have ed:decide (Vn n=Vn M)=decide (n=M):=decide_eq_decide.mpr ⟨λe=>Int.ofNat.inj (V.int.inj e),λe=>by rw[e]⟩;rw[ybm ea,List.filter_append,ed];refine ite2 (λc=>?_) (λc=>?_)
    ·have c1:n=M:=xAj c;refine⟨_,rfl,rfl,?_⟩;rw[xAe];simp[zcj hx,c1]
    ·have c1:¬ n=M:=λh=>c (xAG h)
     refine⟨rfl,?_⟩;simp[zcj hx,c1]
   rw[xA0];rintro acc HD ⟨rfl,rfl⟩ r3 hr3;rw[xAJ];have s3:=yab hr3 (.lst ((us.filter λa=>decide (pn HD a=M)).map V.ref));refine hD' _ _ ⟨r3,us.filter λa=>decide (pn HD a=M),s3,yaa,hPB.lt hr3,?_,?_,?_,rfl⟩
   ·exact List.length_pos_of_mem (List.mem_filter.mpr ⟨haM,xAG eMB⟩)
   ·exact xAB (List.length_filter_le _ _) hul
   ·intro a ha;have h1:=huB a (List.mem_filter.mp ha).1;exact⟨h1.1.same s3,by rw[pk s3 a h1.1];exact h1.2⟩
  ·exact hD' _ _ ⟨r2,us,Same.refl _,eB,n2,List.length_pos_of_mem hu0,hul,huB,rfl⟩
end
end My
end
section
-- text: PN
namespace L2
open PySem PyProof.Rows
end L2
namespace My
open PySem L2 Dg
local macro_rules | `(tactic| walk_at "rd") => `(tactic| repeat (first | refine ⟨_, rfl, ?_⟩ | refine ⟨_, _, rfl, rfl, ?_⟩))
section
variable {P:Program} {w:World} {K:PySem.W.Frag} {mg:Str->Option Value} {base:Heap} {f:Addr} {fd:FuncData}
theorem zfN(x:Nat)(marks:List Nat):inV (Vn x) (marks.map Vn)=decide (x∈marks):=by
 unfold inV;rw[List.any_map];rw[Bool.eq_iff_iff,List.any_eq_true,xBm];constructor
 ·rintro⟨y,hy,h⟩;have:((y:Int)==(x:Int))=true:=h;rw[<-Int.ofNat.inj (eq_of_beq this)];exact hy
 ·intro h;exact⟨x,h,xBo ((x:Nat):Int)⟩
theorem zfg(marks:List Nat):(marks.map Vn).all yde=true:=by
 rw[xB4];intro v hv;obtain⟨x,_,rfl⟩:=xAg.mp hv;rfl
end
end My
end
section
-- text: PG
namespace My
open PySem L2 Dg
local macro_rules | `(tactic| walk_at "rd") => `(tactic| repeat (first | refine ⟨_, rfl, ?_⟩ | refine ⟨_, _, rfl, rfl, ?_⟩))
section
variable {p m t:Nat} (G:Good p m t)
include G
end
theorem yds{K:PySem.W.Frag}{H:Hp}{a:Addr}{n:Nat}{Q:VK}(h:SqT K H a [.int 0])(hn:n<=1000)(q:∀p H',Same H H'->SqT K H' p ((List.replicate n 0).map Vn)->Q (.ref p) H'):yhA K (.ref a) (Vn n) H Q:=by
 refine⟨a,n,[.int 0],rfl,rfl,h,by simp,by lia,by lia,?_,λe=>?_,λe p hp=>?_⟩
 ·rw[show((n:Int)).toNat=n from rfl];exact szl _ (by simp;lia)
 ·have e:n=1:=by lia
  subst e;exact q a H (Same.refl _) h
 ·refine q p _ (yab hp _) (SqT.of ?_);rw[yaa];congr 2;rw[show((n:Int)).toNat=n from rfl,zcu]
theorem zdD{K:PySem.W.Frag}{H:Hp}{a b:Addr}{xs ys:List V}{Q:VK}(ha:SqT K H a xs)(hb:SqT K H b ys)(hz:xs.length+ys.length<=1000)(q:∀p H',Same H H'->SqT K H' p (xs++ys)->Q (.ref p) H'):yhK K (.ref a) (.ref b) H Q:=by
 refine⟨a,b,xs,ys,rfl,rfl,ha,hb,szl _ (by lia),λe=>?_,λe1 e2=>?_,λe1 e2 p hp=>?_⟩
 ·subst e;exact q b H (Same.refl _) hb
 ·subst e2;exact q a H (Same.refl _) (by rw[List.append_nil];exact ha)
 ·exact q p _ (yab hp _) (SqT.of yaa)
section
variable {P:Program} {w:World} {K:PySem.W.Frag} {mg:Str->Option Value} {base:Heap} {f:Addr} {fd:FuncData}
end
end My
end
section
-- text: PK
namespace My
open PySem L2 Dg
local macro_rules | `(tactic| walk_at "rd") => `(tactic| repeat (first | refine ⟨_, rfl, ?_⟩ | refine ⟨_, _, rfl, rfl, ?_⟩))
theorem yg9{marks:List Nat}{n:Nat}(h:marks.Pairwise (· < ·))(hl:∀x∈marks,x<n):marks.length<=n:=by
 have:=ycX (σ:=marks) (τ:=List.range n) (h.imp λh=>by lia) λx hx=>xAw.mpr (hl x hx)
 rwa [xAr]at this
section
variable {P:Program} {w:World} {K:PySem.W.Frag} {mg:Str->Option Value} {base:Heap} {f:Addr} {fd:FuncData}
end
end My
end
section
-- text: PL
namespace My
open PySem L2 Dg
local macro_rules | `(tactic| walk_at "rd") => `(tactic| repeat (first | refine ⟨_, rfl, ?_⟩ | refine ⟨_, _, rfl, rfl, ?_⟩))
section
variable {p m t N:Nat} (hp:2<=p) (hm:1<=m)
include hp hm
end
noncomputable def lets(p m t few:Nat):List Nat:=(List.range (p^m)).filter λx=>decide (pw p m t x (p^few)=x)
theorem ya3{p m t few:Nat}:∀x∈lets p m t few,x<p^m:=λx hx=>xAw.mp (List.mem_filter.mp hx).1
section
variable {P:Program} {w:World} {K:PySem.W.Frag} {mg:Str->Option Value} {base:Heap} {f:Addr} {fd:FuncData}
noncomputable def ycV:Sp:=λvs H Q _=>∃(tb fa pa la:Addr) (p m t b few:Nat),vs=[.ref tb,Vn few]/\Tab H tb fa pa la p m t b/\few<=6/\∀r H',Same H H'->H r=none->H' r=some (.lst ((lets p m t few).map Vn))->Q (.ref r) H'
noncomputable def mkS(p m t r:Nat)(row:List Nat):List Nat:=(List.range (row.length+1)).map λi=>sub p m ((0::row).getD i 0) (mul p m t r ((row++[0]).getD i 0))
noncomputable def mkL(p m t root:Nat)(marks:List Nat):List Nat:=marks.foldl (λrow k=>mkS p m t (pw p m t root k) row) [1]
theorem zcD(p m t r:Nat)(row:List Nat):(mkS p m t r row).length=row.length+1:=by simp[mkS]
theorem zfK(p m t root:Nat):∀(marks row:List Nat),(marks.foldl (λrow k=>mkS p m t (pw p m t root k) row) row).length=row.length+marks.length
 | [],row=>rfl
 |k::marks,row=>by rw[List.foldl_cons,zfK p m t root marks,zcD,xAO];lia
theorem zaV(p m t root:Nat)(marks:List Nat):(mkL p m t root marks).length=marks.length+1:=by unfold mkL;rw[zfK];simp;lia
theorem yf6{p m t r:Nat}(G:Good p m t){row:List Nat}:∀x∈mkS p m t r row,x<p^m:=λx hx=>by
 obtain⟨i,_,rfl⟩:=xAg.mp hx;exact zbS G.hp G.hm _ _
theorem zg4{p m t root:Nat}(G:Good p m t):∀(marks row:List Nat),(∀x∈row,x<p^m)->∀x∈marks.foldl (λrow k=>mkS p m t (pw p m t root k) row) row,x<p^m
 | [],row,h=>h
 |k::marks,row,h=>by rw[List.foldl_cons];exact zg4 G marks _ (yf6 G)
theorem zbE{p m t root:Nat}(G:Good p m t)(marks:List Nat):∀x∈mkL p m t root marks,x<p^m:=zg4 G marks [1] λx hx=>by rw[xAA.mp hx];exact zax G.hp G.hm
theorem zeN{p m t root:Nat}{marks:List Nat}{i k:Nat}(h:marks[i]?=some k):mkL p m t root (marks.take (i+1))=mkS p m t (pw p m t root k) (mkL p m t root (marks.take i)):=by
 unfold mkL;rw[ybm h,List.foldl_append];rfl
noncomputable def ydQ:Sp:=λvs H Q _=>∃(tb fa pa la wh mk:Addr) (p m t b few root:Nat) (marks:List Nat),vs=[.ref tb,.ref wh]/\Tab H tb fa pa la p m t b/\WhAt H wh fa mk few root marks/\root<p^m/\marks.length<=64/\∀r H',Same H H'->H r=none->H' r=some (.lst ((mkL p m t root marks).map Vn))->Q (.ref r) H'
end
end My
end
section
-- text: PM
namespace My
open PySem L2 Dg
local macro_rules | `(tactic| walk_at "rd") => `(tactic| repeat (first | refine ⟨_, rfl, ?_⟩ | refine ⟨_, _, rfl, rfl, ?_⟩))
section
variable {P:Program} {w:World} {K:PySem.W.Frag} {mg:Str->Option Value} {base:Heap} {f:Addr} {fd:FuncData}
noncomputable def zdI(K:PySem.W.Frag):Sp:=λvs H Q _=>∃(a:Addr) (p m t x:Nat) (z:Int),vs=[.ref a,Vn x,.int z]/\Fld K H a p m t/\Good p m t/\x<p^m/\(x=0->0<=z)/\Q (Vn (pwz p m t x z)) H
theorem ygy:yah ["field","one","many"] ["field","one","many"] (zae zen):=⟨rfl,rfl,rfl,by decide +kernel,rfl,by decide +kernel,by decide +kernel⟩
theorem zgK(B:Bl mg)(xCa:Has P w K mg base 4 "times_itself" ["field","one","many"] (ycI K))(xBZ:Has P w K mg base 2 "many_things" ["field"] (ydn K))(F:Fun K "power" "power" zen f fd):FnOk P w K mg base CX0 5 f fd ["field","one","many"] (zdI K):=by
 refine F.ok ygy (λvs H Q E h=>?_) (λcdv A outer s H vs Q E hr h=>?_)
 ·obtain⟨a,p,m,t,x,z,rfl,_⟩:=h;rfl
 obtain⟨a,p,m,t,x,z,rfl,hF,G,hx,hz,q⟩:=h;have hp:=G.hp;have hm:=G.hm;have hQ:=zax hp hm;unfold pwz at q;refine⟨_,(zab (@za3 _ _ _ _ _ _ _ _ (@zai _ _ _ _ _ _ _ _ ya9 (pv 2) yac (yak _)) (yad (@yaj _ _ _ _ yac)) zaw) (zab (@za3 _ _ _ _ _ _ _ _ (@zai _ _ _ _ _ _ _ _ ya9 (pv 1) yac (yak _)) (zab (@za3 _ _ _ _ _ _ _ _ (@zai _ _ _ _ _ _ _ _ yhR (pv 2) yac (yak _)) (yad zct) zaw) (yad (@yaj _ _ _ _ yac))) zaw) (yad (@yaj _ _ _ _ (zad xCa hr (by decide) rfl (zaa (pv 0) (zaa (pv 1) (zaa (zaf yaz (pv 2) (zaf yaG (zad xBZ hr (by decide) rfl (zaa (pv 0) zac ⋯) (by decide) ⋯ ⋯) yac)) zac ⋯) ⋯) ⋯) (by decide) ⋯ ⋯))))),?_⟩;refine⟨_,rfl,rfl,_,rfl,?_⟩;by_cases cz:z=0
 ·subst cz;refine ite2 (λ_=>?_) (λh=>absurd (xAG rfl) h);have e:(if x=0 then(if (0:Int)=0 then 1 else 0) else pw p m t x ((0:Int)%(((p^m:Nat):Int)-1)).toNat)=1:=by
   by_cases c:x=0
   ·rw[if_pos c,if_pos rfl]
   ·rw[if_neg c,Int.zero_emod];rfl
  rw[e]at q;exact q
 ·refine ite2 (λh=>absurd (V.int.inj (xAj h)) cz) (λ_=>?_);dsimp only[yfr];refine⟨_,rfl,rfl,_,rfl,?_⟩;rw[ybu];refine ite2 (λc=>?_) (λc=>?_)
  ·have x0:x=0:=xAj c;rw[if_pos x0,if_neg cz]at q;refine⟨_,rfl,_,_,rfl,rfl,_,rfl,?_⟩;refine ite2 (λh=>absurd (xAj h) (by have:=hz x0;lia)) (λ_=>?_);exact q
  ·have x0:¬ x=0:=λh=>c (xAG h)
   rw[if_neg x0]at q;dsimp only[yfr];refine⟨_,rfl,_,rfl,_,rfl,_,rfl,a,p,m,t,rfl,hF,p_le hp hm G.hq,by have:=m_le hp G.hq;lia,?_⟩;refine⟨_,_,rfl,rfl,_,_,rfl,rfl,by show(0:Int)<((p^m:Nat):Int)-1;lia,?_⟩;have hz0:=Int.emod_nonneg z (show((p^m:Nat):Int)-1≠0 by lia);obtain⟨k,ek⟩:=Int.eq_ofNat_of_zero_le hz0;refine⟨a,p,m,t,x,k,?_,hF,G,hx,?_⟩
   ·show [V.ref a,Vn x,V.int (z%(((p^m:Nat):Int)-1))]=[V.ref a,Vn x,Vn k]
    rw[ek]
   ·rw[ek]at q;exact q
end
end My
end
section
-- text: PT
namespace My
open PySem L2 Dg
section
variable {p m t:Nat}
section
variable (hp:2<=p) (hm:1<=m)
include hp hm
theorem ze9{x y c:Nat}(hx:x<p^m)(hy:y<p^m)(h:add p m x c=add p m y c):x=y:=by
 rw[<-zb0 hp hm (y:=c) hx,h,zb0 hp hm hy]
end
variable (G:Good p m t)
include G
omit G in
theorem rget{n:Nat}{f:Nat->Nat}{i:Nat}(h:i<n):((List.range n).map f).getD i 0=f i:=by
 rw[xAf,xA8,xAL h];rfl
end
end My
end
section
-- text: PU
namespace My
open PySem L2 Dg
noncomputable def padL(a b:Nat)(row:List Nat):List Nat:=List.replicate a 0++row++List.replicate b 0
theorem yhx(a b:Nat)(row:List Nat):(padL a b row).length=a+row.length+b:=by simp[padL];lia
section
variable {p m t:Nat} (G:Good p m t)
include G
theorem yhB{x r:Nat}{row:List Nat}(hx:x<p^m)(hr:∀y∈row,y<p^m):add p m (val p m t x (mkS p m t r row)) (mul p m t r (val p m t x row))=mul p m t (val p m t x row) x:=by
 have hp:=G.hp;have hm:=G.hm;have h0:=yal hp hm;have hA:∀i,(0::row).getD i 0<p^m:=λi=>by
  cases i with
  |zero=>exact h0
  |succ i=>
   rw[List.getD_cons_succ];rcases xAS i row.length with h|h
   ·exact yaO hr h
   ·rw[yax h];exact h0
 rw[ya7 hp hm hx _ (yf6 G),zcD,ya7 hp hm hx row hr];have e1:(sumF p m (row.length+1) λk=>mul p m t ((mkS p m t r row).getD k 0) (pw p m t x k))=sumF p m (row.length+1) λk=>mul p m t (sub p m ((0::row).getD k 0) (mul p m t r ((row++[0]).getD k 0))) (pw p m t x k):=by
  refine yay hp hm _ λk hk=>?_
  rw[show(mkS p m t r row).getD k 0=_ from rget hk]
 have e2:mul p m t r (sumF p m row.length λk=>mul p m t (row.getD k 0) (pw p m t x k))=sumF p m (row.length+1) λk=>mul p m t (mul p m t r ((row++[0]).getD k 0)) (pw p m t x k):=by
  rw[zbv hp hm _ row.length 1 λi h1 h2=>by
   have:i=row.length:=by lia
   subst this;have e:(row++[0]).getD row.length 0=0:=by simp[List.getD]
   rw[e,mul_zero hp hm,zero_mul hp hm],mul_comm hp hm,<-ycb hp hm]
  refine yay hp hm _ λk hk=>?_
  have e:(row++[0]).getD k 0=row.getD k 0:=by simp[List.getD,List.getElem?_append,hk]
  rw[e,mul_comm hp hm r,mul_assoc hp hm,mul_assoc hp hm,mul_comm hp hm r]
 have e3:mul p m t (sumF p m row.length λk=>mul p m t (row.getD k 0) (pw p m t x k)) x=sumF p m (row.length+1) λk=>mul p m t ((0::row).getD k 0) (pw p m t x k):=by
  rw[zcO hp hm (f:=λk=>mul p m t ((0::row).getD k 0) (pw p m t x k)) (λi=>zaA hp hm _ _)];rw[show(0::row).getD 0 0=0 from rfl,zero_mul hp hm,zero_add hp hm (yeS hp hm _ _),<-ycb hp hm];refine yay hp hm _ λk _=>?_
  rw[List.getD_cons_succ,mul_assoc hp hm];rfl
 rw[e1,e2,e3,<-zdi hp hm];refine yay hp hm _ λk _=>?_
 rw[<-add_mul hp hm,zca hp hm (hA k)]
theorem ze4{root x:Nat}(hx:x<p^m):∀(marks row:List Nat),(∀y∈row,y<p^m)->(val p m t x row=0\/∃k∈marks,x=pw p m t root k)->val p m t x (marks.foldl (λrow k=>mkS p m t (pw p m t root k) row) row)=0
 | [],row,_,h=>by
  rcases h with h |⟨k,hk,_⟩
  ·exact h
  ·cases hk
 |k::ms,row,hr,h=>by
  have hp:=G.hp;have hm:=G.hm;rw[List.foldl_cons];have key:=yhB G (r:=pw p m t root k) hx hr;refine ze4 hx ms _ (yf6 G) ?_;by_cases c:val p m t x row=0\/x=pw p m t root k
  ·left;refine ze9 hp hm (c:=mul p m t (pw p m t root k) (val p m t x row)) (zb1 hp hm _ _) (yal hp hm) ?_;rw[key,zero_add hp hm (zaA hp hm _ _)];rcases c with c|c
   ·rw[c,zero_mul hp hm,mul_zero hp hm]
   ·rw[<-c,mul_comm hp hm]
  ·right;rcases h with h |⟨k',hk',e⟩
   ·exact absurd (.inl h) c
   ·rcases xA9.mp hk' with h1|h1
    ·exact absurd (.inr (h1 ▸ e)) c
    ·exact⟨k',h1,e⟩
theorem ycs{root k:Nat}{marks:List Nat}(h:k∈marks):val p m t (pw p m t root k) (mkL p m t root marks)=0 :=
 ze4 G (zaS G.hp G.hm _ _) marks [1] (λy hy=>by rw[xAA.mp hy];exact zax G.hp G.hm) (.inr ⟨k,h,rfl⟩)
theorem ydJ{x:Nat}(a b:Nat){row:List Nat}(h:val p m t x row=0):val p m t x (padL a b row)=0:=by
 have hp:=G.hp;have hm:=G.hm;have z0:add p m (mul p m t 0 x) 0=0:=by rw[zero_mul hp hm,add_zero hp hm (yal hp hm)]
 have z1:∀b,val p m t x (List.replicate b 0)=0:=λb=>by
  induction b with
  |zero=>rfl
  |succ b ih=>
   rw[xAH];show add p m (mul p m t (val p m t x (List.replicate b 0)) x) 0=0;rw[ih];exact z0
 have z2:∀l:List Nat,val p m t x (l++List.replicate b 0)=val p m t x l:=λl=>by
  induction l with
  |nil=>exact z1 b
  |cons y l ih=>
   show add p m (mul p m t (val p m t x (l++List.replicate b 0)) x) y=add p m (mul p m t (val p m t x l) x) y;rw[ih]
 unfold padL;rw[z2]
 induction a with
 |zero=>exact h
 |succ a ih=>
  rw[xAH];show add p m (mul p m t (val p m t x (List.replicate a 0++row)) x) 0=0;rw[ih];exact z0
theorem yg0{a b:Nat}{row:List Nat}(h:∀y∈row,y<p^m):∀y∈padL a b row,y<p^m:=λy hy=>by
 have h0:=yal G.hp G.hm;rcases xAE.mp hy with h1|h1
 ·rcases xAE.mp h1 with h1|h1
  ·rw[(List.mem_replicate.mp h1).2];exact h0
  ·exact h y h1
 ·rw[(List.mem_replicate.mp h1).2];exact h0
end
end My
end
section
-- text: PV
namespace My
open PySem L2 Dg
theorem zdo:∀ {l l':List Nat},l.Nodup->(∀x∈l,x∈l')->l.length<=l'.length
 | [],_,_,_=>xB7 _
 |x::l,l',hd,h=>by
  have hd':=xBe.mp hd;have hx:=h x xAb;have:=zdo (l:=l) (l':=l'.erase x) hd'.2 λy hy=>(List.mem_erase_of_ne (λe=>hd'.1 (by rw[<-e];exact hy))).mpr (h y (xA7 _ hy))
  rw[List.length_erase_of_mem hx]at this;have:=List.length_pos_of_mem hx;rw[xAO];lia
theorem ycA(q k:Nat):q-1 ∣ q^k-1:=by
 induction k with
 |zero=>simp
 |succ k ih=>
  obtain⟨c,hc⟩:=ih;rcases xAZ q with h|h
  ·subst h;simp
  ·have hk:1<=q^k:=xB1 h;refine⟨q^k+c,?_⟩;have e:q^k=(q-1)*c+1:=by lia
   rw[xAD,Nat.mul_add,<-hc,xBb (q-1),Nat.mul_sub,Nat.mul_one];have:=Nat.mul_le_mul_left (q^k) h;lia
section
variable {p m t:Nat} (G:Good p m t)
include G
theorem zf3{few:Nat}(hf:m%few=0)(hf1:1<=few):(lets p m t few).length<=p^few:=by
 have hp:=G.hp;have hm:=G.hm;obtain⟨b,Pb⟩:=G.prim;have hq2:2<=p^few:=xAB hp (Nat.le_self_pow (by lia) p);obtain⟨kk,hkk⟩:p^few-1 ∣ p^m-1:=by
  have:=ycA (p^few) (m/few);rw[<-Nat.pow_mul,Nat.mul_div_cancel' (xBj hf)]at this;exact this
 have h1:=zax hp hm;have hnd:(lets p m t few).Nodup:=List.Pairwise.filter _ (List.pairwise_lt_range.imp λh=>by lia);have hs:=zdo (l':=0::(List.range (p^few-1)).map λj=>pw p m t b (kk*j)) hnd λx hx=>by
  obtain⟨hxr,hxe⟩:=List.mem_filter.mp hx;have hxr:=xAw.mp hxr;have hxe:pw p m t x (p^few)=x:=xAj hxe;rcases xAZ x with h0|h0
  ·rw[h0];exact xAb
  ·refine xA7 _ ?_;obtain⟨i,hi,rfl⟩:=Pb.all x h0 hxr;rw[<-za7 hp hm]at hxe;have e1:(i*p^few)%(p^m-1)=i:=by
    refine G.inj Pb _ _ (xAR _ (by lia)) hi ?_;rw[G.pw_mod Pb.pos Pb.lt];exact hxe
   have d1:p^m-1 ∣ i*(p^few-1):=by
    have e2:=Nat.div_add_mod (i*p^few) (p^m-1);rw[e1]at e2;refine⟨i*p^few/(p^m-1),?_⟩;rw[Nat.mul_sub,Nat.mul_one];lia
   rw[hkk,xBb i]at d1;have d2:=Nat.dvd_of_mul_dvd_mul_left (by lia) d1;obtain⟨j,rfl⟩:=d2;refine xAg.mpr ⟨j,xAw.mpr ?_,rfl⟩;rw[hkk,xBb (p^few-1)]at hi;exact Nat.lt_of_mul_lt_mul_left hi
 rw[xAO,xA0,xAr]at hs;lia
theorem yeG{r n a b:Nat}(r0:0<r)(hr:r<p^m)(o:Ord p m t r n)(ha:a<n)(hb:b<n)(h:pw p m t r a=pw p m t r b):a=b:=by
 have hp:=G.hp;have hm:=G.hm;have es:∀i,mul p m t (pw p m t (pw p m t r (p^m-2)) i) (pw p m t r i)=1:=λi=>by rw[<-zdc hp hm,G.inv r0 hr,zcU hp hm]
 have inj:∀a b,a<b->b<n->pw p m t r a=pw p m t r b->False:=λa b hab hb h=>by
  refine o.min (b-a) (by lia) (by lia) ?_;have h2:=ybo (t:=t) hp hm r a (b-a);rw[show a+(b-a)=b by lia,<-h]at h2;have h3:=congrArg (λz=>mul p m t (pw p m t (pw p m t r (p^m-2)) a) z) h2;rw[es,<-mul_assoc hp hm,es,one_mul hp hm (zaS hp hm _ _)]at h3;exact h3.symm
 rcases Nat.lt_trichotomy a b with h1|h1|h1
 ·exact(inj a b h1 hb h).elim
 ·exact h1
 ·exact(inj b a h1 ha h.symm).elim
end
noncomputable def addL(p m:Nat)(xs ys:List Nat):List Nat:=(List.range (min xs.length ys.length)).map λi=>add p m (xs.getD i 0) (ys.getD i 0)
theorem ycr{p m n:Nat}{xs ys:List Nat}(h1:xs.length=n)(h2:ys.length=n):(addL p m xs ys).length=n:=by simp[addL,h1,h2]
section
variable {p m t:Nat} (G:Good p m t)
include G
theorem yes(xs ys:List Nat):∀x∈addL p m xs ys,x<p^m:=λx hx=>by
 obtain⟨i,_,rfl⟩:=xAg.mp hx;exact zbb G.hp G.hm _ _
theorem zeT{x n:Nat}{xs ys:List Nat}(hx:x<p^m)(l1:xs.length=n)(l2:ys.length=n)(h1:∀a∈xs,a<p^m)(h2:∀a∈ys,a<p^m):val p m t x (addL p m xs ys)=add p m (val p m t x xs) (val p m t x ys):=by
 have hp:=G.hp;have hm:=G.hm;rw[ya7 hp hm hx _ (yes G xs ys),ya7 hp hm hx _ h1,ya7 hp hm hx _ h2,ycr l1 l2,l1,l2,<-zdi hp hm];refine yay hp hm _ λi hi=>?_
 have e:(addL p m xs ys).getD i 0=add p m (xs.getD i 0) (ys.getD i 0):=rget (by rw[l1,l2,Nat.min_self];exact hi);rw[e,add_mul hp hm]
theorem ydO{x c:Nat}{xs:List Nat}(hx:x<p^m)(h1:∀a∈xs,a<p^m):val p m t x (yaB p m t c xs)=mul p m t c (val p m t x xs):=by
 have hp:=G.hp;have hm:=G.hm;have hl:(yaB p m t c xs).length=xs.length:=by simp[yaB]
 rw[ya7 hp hm hx _ (zb3 G c xs),ya7 hp hm hx _ h1,hl,mul_comm hp hm c,<-ycb hp hm];refine yay hp hm _ λk hk=>?_
 rw[show(yaB p m t c xs).getD k 0=mul p m t c (xs.getD k 0) from rget hk,mul_comm hp hm c,mul_assoc hp hm,mul_assoc hp hm,mul_comm hp hm c]
end
end My
end
section
-- text: PZ
namespace My
open PySem L2 Dg
noncomputable def dvF(p m t:Nat)(ds rest:List Nat)(a:Nat):Nat:=mul p m t (rest.getD (a+ds.length-1) 0) (pw p m t (ds.getD (ds.length-1) 0) (p^m-2))
noncomputable def dvJ(p m t:Nat)(ds rest:List Nat)(a c j:Nat):List Nat:=(List.range rest.length).map λi=>if a<=i/\i<a+j then sub p m (rest.getD i 0) (mul p m t c (ds.getD (i-a) 0)) else rest.getD i 0
noncomputable def dvS(p m t:Nat)(ds rest:List Nat)(a:Nat):List Nat:=dvJ p m t ds rest a (dvF p m t ds rest a) ds.length
noncomputable def dvI(p m t:Nat)(ds one:List Nat)(N:Nat):Nat->List Nat
 |0=>one
 |i+1=>dvS p m t ds (dvI p m t ds one N i) (N-1-i)
noncomputable def dvQ(p m t:Nat)(ds one:List Nat)(N i:Nat):List Nat:=(List.range N).map λk=>if N<=k+i then dvF p m t ds (dvI p m t ds one N (N-1-k)) k else 0
theorem ycT(p m t:Nat)(ds rest:List Nat)(a c j:Nat):(dvJ p m t ds rest a c j).length=rest.length:=by simp[dvJ]
theorem zcg(p m t:Nat)(ds one:List Nat)(N:Nat):∀i,(dvI p m t ds one N i).length=one.length
 |0=>rfl
 |i+1=>by unfold dvI dvS;rw[ycT,zcg p m t ds one N i]
theorem zeF{p m t:Nat}{ds rest:List Nat}{a c j i:Nat}(hi:i<rest.length):(dvJ p m t ds rest a c j).getD i 0=if a<=i/\i<a+j then sub p m (rest.getD i 0) (mul p m t c (ds.getD (i-a) 0)) else rest.getD i 0:=by
 unfold dvJ;rw[zdQ,if_pos hi]
theorem yfk(l:List Nat):((List.range l.length).map λi=>l.getD i 0)=l:=by
 refine xAP (by simp) λi h1 h2=>?_
 simp[List.getD,h2]
theorem ygk(p m t:Nat)(ds rest:List Nat)(a c:Nat):dvJ p m t ds rest a c 0=rest:=by
 unfold dvJ
 conv=>rhs;rw[<-yfk rest]
 refine xAy λi _=>?_
 rw[if_neg (by lia)]
theorem yhb{p m t:Nat}{ds rest:List Nat}{a c j:Nat}:(dvJ p m t ds rest a c j).set (a+j) (sub p m (rest.getD (a+j) 0) (mul p m t c (ds.getD j 0)))=dvJ p m t ds rest a c (j+1):=by
 refine xAP (by simp[dvJ]) λi h1 h2=>?_
 rw[List.getElem_set];simp only[dvJ,xBq,xBh];by_cases e:a+j=i
 ·subst e;rw[if_pos rfl,if_pos (by lia),Nat.add_sub_cancel_left]
 ·rw[if_neg e];by_cases c1:a<=i/\i<a+j
  ·rw[if_pos c1,if_pos (by lia)]
  ·rw[if_neg c1,if_neg (by lia)]
theorem ygK(p m t:Nat)(ds one:List Nat)(N:Nat):dvQ p m t ds one N 0=List.replicate N 0:=by
 refine xAP (by simp[dvQ]) λi h1 h2=>?_
 simp only[dvQ,xBq,xBh,List.getElem_replicate];rw[if_neg (by simp[dvQ]at h1;lia)]
theorem zhm{p m t:Nat}{ds one:List Nat}{N i:Nat}(hi:i<N):(dvQ p m t ds one N i).set (N-1-i) (dvF p m t ds (dvI p m t ds one N i) (N-1-i))=dvQ p m t ds one N (i+1):=by
 refine xAP (by simp[dvQ]) λk h1 h2=>?_
 rw[List.getElem_set];simp only[dvQ,xBq,xBh];by_cases e:N-1-i=k
 ·subst e;rw[if_pos rfl,if_pos (by lia),show N-1-(N-1-i)=i by lia]
 ·rw[if_neg e];by_cases c:N<=k+i
  ·rw[if_pos c,if_pos (by lia)]
  ·rw[if_neg c,if_neg (by lia)]
theorem zel(p m t:Nat)(ds one:List Nat)(N i:Nat):(dvQ p m t ds one N i).length=N:=by simp[dvQ]
theorem yfq{xs:List Nat}(h:trim xs=xs)(h0:0<xs.length):xs.getD (xs.length-1) 0≠0:=by
 intro c;have e:xs=xs.take (xs.length-1)++[0]:=by
  have:=ybN (l:=xs) (e:=xs.length-1) (by lia);rw[show xs.length-1+1=xs.length by lia,xAJ,c]at this;exact this
 have e2:trim xs=trim (xs.take (xs.length-1)):=by conv=>lhs;rw[e,zb6]
 have:=yeE (xs.take (xs.length-1));rw[<-e2,h,xAC]at this;lia
theorem yeC{l:List Nat}{n:Nat}(h:∀k,n<=k->l.getD k 0=0):(trim l).length<=n:=by
 rcases xAS n (trim l).length with c|c
 ·have h1:=yfq (yd8 l) (by lia);rw[zd4]at h1;exact absurd (h _ (by lia)) h1
 ·exact c
section
variable {p m t:Nat} (G:Good p m t)
include G
theorem zbI{xs:List Nat}(h:∀x∈xs,x<p^m)(i:Nat):xs.getD i 0<p^m:=by
 by_cases c:i<xs.length
 ·exact yaO h c
 ·rw[yax (by lia)];exact yal G.hp G.hm
theorem zhQ(ds rest:List Nat)(a:Nat):dvF p m t ds rest a<p^m:=zaA G.hp G.hm _ _
theorem zgX{ds rest:List Nat}{a c j:Nat}(h:∀x∈rest,x<p^m):∀x∈dvJ p m t ds rest a c j,x<p^m:=λx hx=>by
 obtain⟨i,_,rfl⟩:=xAg.mp hx;split
 ·exact zbS G.hp G.hm _ _
 ·exact zbI G h i
theorem ycl{ds one:List Nat}{N:Nat}(h:∀x∈one,x<p^m):∀i,∀x∈dvI p m t ds one N i,x<p^m
 |0=>h
 |i+1=>zgX G (ycl h i)
theorem zb7{x:Nat}(hx:x<p^m):sub p m x x=0:=by
 have:=zb0 G.hp G.hm (y:=x) (yal G.hp G.hm (p:=p) (m:=m));rw[zero_add G.hp G.hm hx]at this;exact this
theorem yeN{ds one:List Nat}{N:Nat}(hN:N=one.length+1-ds.length)(hd:0<ds.length)(hl:0<ds.getD (ds.length-1) 0)(h:∀x∈one,x<p^m)(hds:∀x∈ds,x<p^m):∀i,i<=N->∀k,one.length<=k+i->(dvI p m t ds one N i).getD k 0=0
 |0,_,k,hk=>yax (by unfold dvI;lia)
 |i+1,hi,k,hk=>by
  have hp:=G.hp;have hm:=G.hm;show(dvJ p m t ds (dvI p m t ds one N i) (N-1-i) (dvF p m t ds (dvI p m t ds one N i) (N-1-i)) ds.length).getD k 0=0;by_cases c:k<one.length
  ·rw[zeF (by rw[zcg];exact c)];by_cases c2:one.length<=k+i
   ·rw[if_neg (by lia)];exact yeN hN hd hl h hds i (by lia) k c2
   ·have ek:k=N-1-i+ds.length-1:=by lia
    rw[if_pos (by lia),show k-(N-1-i)=ds.length-1 by lia];unfold dvF;rw[<-ek,mul_assoc hp hm,G.inv hl (zbI G hds _),mul_one hp hm (zbI G (ycl G h i) k)];exact zb7 G (zbI G (ycl G h i) k)
  ·exact yax (by rw[ycT,zcg];lia)
theorem ygt{ds one:List Nat}(hd:0<ds.length)(hl:0<ds.getD (ds.length-1) 0)(h:∀x∈one,x<p^m)(hds:∀x∈ds,x<p^m):(trim (dvI p m t ds one (one.length+1-ds.length) (one.length+1-ds.length))).length<=ds.length-1:=by
 refine yeC λk hk=>?_
 by_cases c:ds.length<=one.length
 ·exact yeN G rfl hd hl h hds _ (xA4 _) k (by lia)
 ·rw[show one.length+1-ds.length=0 by lia];exact yax (by unfold dvI;lia)
theorem zhd{x y r:Nat}(hx:x<p^m)(hr:r<p^m):add p m x (mul p m t y (sub p m 0 r))=sub p m x (mul p m t r y):=by
 have hp:=G.hp;have hm:=G.hm;have e1:sub p m 0 r=mul p m t (p-1) r:=by rw[<-zdX (t:=t) hp hm (yal hp hm) hr,zero_add hp hm (zaA hp hm _ _)]
 have e2:mul p m t y (mul p m t (p-1) r)=mul p m t (p-1) (mul p m t r y):=by
  rw[mul_comm hp hm y,mul_assoc hp hm]
 rw[e1,e2,zdX hp hm hx (zaA hp hm _ _)]
theorem ygo{row:List Nat}{b:Nat}(hr:∀x∈row,x<p^m):∀n,conv p m t row [b,1] n=add p m ((0::row).getD n 0) (mul p m t (row.getD n 0) b)
 |0=>rfl
 |n+1=>by
  have hp:=G.hp;have hm:=G.hm;have h0:sumF p m n (λi=>mul p m t (row.getD i 0) (([b,1]:List Nat).getD (n+1-i) 0))=0:=by
   have:sumF p m n (λi=>mul p m t (row.getD i 0) (([b,1]:List Nat).getD (n+1-i) 0))=sumF p m n λ_=>0:=by
    refine yay hp hm _ λi hi=>?_
    rw[yax (show([b,1]:List Nat).length<=n+1-i by simp;lia),mul_zero hp hm]
   rw[this];have:=zbv hp hm (λ_=>0) 0 n (λ_ _ _=>rfl);rw[Nat.zero_add]at this;exact this
  show add p m (add p m (sumF p m n λi=>mul p m t (row.getD i 0) (([b,1]:List Nat).getD (n+1-i) 0)) (mul p m t (row.getD n 0) (([b,1]:List Nat).getD (n+1-n) 0))) (mul p m t (row.getD (n+1) 0) (([b,1]:List Nat).getD (n+1-(n+1)) 0))=_;rw[h0,show n+1-n=1 by lia,Nat.sub_self];show add p m (add p m 0 (mul p m t (row.getD n 0) 1)) (mul p m t (row.getD (n+1) 0) b)=add p m (row.getD n 0) _;rw[mul_one hp hm (zbI G hr n),zero_add hp hm (zbI G hr n)]
omit G in
theorem ycp(row:List Nat)(i:Nat):(row++[0]).getD i 0=row.getD i 0:=by
 by_cases c:i<row.length
 ·rw[xAf,xBn c,<-xAf]
 ·rw[yax (xs:=row) (by lia),xAf,xAU (by lia)];cases i-row.length with
  |zero=>rfl
  |succ k=>rfl
theorem ygM{row:List Nat}{r:Nat}(hr:∀x∈row,x<p^m)(hrq:r<p^m)(h0:0<row.length)(hl:row.getD (row.length-1) 0=1):rmul p m t row [sub p m 0 r,1]=mkS p m t r row:=by
 have hp:=G.hp;have hm:=G.hm;have hz:∀n,(0::row).getD n 0<p^m:=λn=>zbI G (λx hx=>by
  rcases xA9.mp hx with rfl|h
  ·exact yal hp hm
  ·exact hr x h) n
 have e:∀n,conv p m t row [sub p m 0 r,1] n=sub p m ((0::row).getD n 0) (mul p m t r ((row++[0]).getD n 0)):=λn=>by
  rw[ygo G hr,zhd G (hz n) hrq,ycp]
 unfold rmul mkS;rw[show(row.length+([sub p m 0 r,1]:List Nat).length)=row.length+1+1 from rfl,xBd,xAe];have ez:conv p m t row [sub p m 0 r,1] (row.length+1)=0:=by
  rw[e,ycp,yax (xs:=row) (i:=row.length+1) (by lia),yax (xs:=0::row) (by simp),mul_zero hp hm];exact zb7 G (yal hp hm)
 rw[List.map_singleton,ez,zb6,xBd,xAe,List.map_singleton,xAe,List.map_singleton];have el:conv p m t row [sub p m 0 r,1] row.length=1:=by
  rw[e,ycp,yax (xs:=row) (i:=row.length) (xA4 _),mul_zero hp hm];obtain⟨k,hk⟩:∃k,row.length=k+1:=⟨row.length-1,by lia⟩
  rw[hk];show sub p m (row.getD k 0) 0=1;rw[hk]at hl;rw[show k+1-1=k from rfl]at hl;rw[hl];have:=zb0 hp hm (x:=1) (y:=0) (zax hp hm);rw[add_zero hp hm (zax hp hm)]at this;exact this
 rw[el,zcS (by decide),<-e,el];refine congrArg (·++[1]) (xAy λn _=>e n)
theorem ygm{row:List Nat}{r:Nat}(h0:0<row.length)(hl:row.getD (row.length-1) 0=1):(mkS p m t r row).getD row.length 0=1:=by
 have hp:=G.hp;have hm:=G.hm;unfold mkS;rw[zdQ,if_pos (by lia),ycp,yax (xs:=row) (i:=row.length) (xA4 _),mul_zero hp hm];obtain⟨k,hk⟩:∃k,row.length=k+1:=⟨row.length-1,by lia⟩
 rw[hk];show sub p m (row.getD k 0) 0=1;rw[hk]at hl;rw[show k+1-1=k from rfl]at hl;rw[hl];have:=zb0 hp hm (x:=1) (y:=0) (zax hp hm);rw[add_zero hp hm (zax hp hm)]at this;exact this
theorem yeU(root:Nat):∀(marks row:List Nat),0<row.length->row.getD (row.length-1) 0=1->(marks.foldl (λrow k=>mkS p m t (pw p m t root k) row) row).getD (row.length+marks.length-1) 0=1
 | [],row,_,h=>h
 |k::marks,row,h0,h=>by
  have:=yeU root marks (mkS p m t (pw p m t root k) row) (by rw[zcD];lia) (by rw[zcD];exact ygm G h0 h);rw[zcD]at this;rw[List.foldl_cons,show row.length+(k::marks).length-1=row.length+1+marks.length-1 by rw[xAO];lia];exact this
theorem yb3(root:Nat)(marks:List Nat):(mkL p m t root marks).getD marks.length 0=1:=by
 have:=yeU G root marks [1] (by decide) rfl;rw[show([1]:List Nat).length+marks.length-1=marks.length by simp]at this;exact this
end
noncomputable def mdR(p m t root:Nat)(marks gs:List Nat):List Nat:=trim (List.replicate marks.length 0++gs)
noncomputable def mdN(p m t root:Nat)(marks gs:List Nat):Nat:=(mdR p m t root marks gs).length+1-(mkL p m t root marks).length
noncomputable def mdL(p m t root:Nat)(marks gs:List Nat):List Nat:=((wid (trim (dvI p m t (mkL p m t root marks) (mdR p m t root marks gs) (mdN p m t root marks gs) (mdN p m t root marks gs))) marks.length).map (sub p m 0))++gs
theorem zeW{p m t root:Nat}{marks gs:List Nat}(G:Good p m t)(h:∀x∈gs,x<p^m):∀x∈mdR p m t root marks gs,x<p^m:=λx hx=>by
 rcases xAE.mp (yct _ _ hx) with c|c
 ·rw[xBa c];exact yal G.hp G.hm
 ·exact h x c
theorem zcr{p m t root:Nat}{marks gs:List Nat}(G:Good p m t)(h:∀x∈gs,x<p^m):(trim (dvI p m t (mkL p m t root marks) (mdR p m t root marks gs) (mdN p m t root marks gs) (mdN p m t root marks gs))).length<=marks.length:=by
 have:=ygt G (ds:=mkL p m t root marks) (one:=mdR p m t root marks gs) (by rw[zaV];lia) (by rw[zaV,Nat.add_sub_cancel,yb3 G];exact Nat.one_pos) (zeW G h) (zbE G marks);rw[zaV,Nat.add_sub_cancel]at this;unfold mdN;rw[zaV];exact this
theorem ych{p m t root:Nat}{marks gs:List Nat}(G:Good p m t)(h:∀x∈gs,x<p^m):(mdL p m t root marks gs).length=marks.length+gs.length:=by
 unfold mdL;rw[xAt,xA0,ydo (zcr G h)]
theorem zec{p m t root:Nat}{marks gs:List Nat}(G:Good p m t)(h:∀x∈gs,x<p^m):∀x∈mdL p m t root marks gs,x<p^m:=λx hx=>by
 rcases xAE.mp hx with c|c
 ·obtain⟨y,_,rfl⟩:=xAg.mp c;exact zbS G.hp G.hm _ _
 ·exact h x c
theorem zgO{xs:List V}{v:V}(h:xs[xs.length-1]?=some v):atI xs (-1)=some v:=by
 have hl:0<xs.length:=by
  have:=(xAk.mp h).1;lia
 unfold atI ixN;rw[if_neg (by decide),if_pos (by lia)];show(some _).bind _=_;rw[Option.bind_some,<-h];congr 1;lia
section
variable {P:Program} {w:World} {K:PySem.W.Frag} {mg:Str->Option Value} {base:Heap} {f:Addr} {fd:FuncData}
noncomputable def ydC(K:PySem.W.Frag):Sp:=λvs H Q E=>ydq K vs H Q E\/∃(a:Addr) (ns:List Nat),vs=[.ref a]/\SqT K H a (ns.map Vn)/\ns.length<=1000/\∀r H',Same H H'->SqT K H' r ((trim ns).map Vn)->Q (.ref r) H'
theorem zia{k:Nat}{x:Str}{ps:List Str}(h:Has P w K mg base k x ps (ydC K)):Has P w K mg base k x ps (ydq K):=by
 obtain⟨f,fd,F,B,kp,m⟩:=h;exact⟨f,fd,F.imp λvs H Q E h=>.inl h,B,kp,m⟩
theorem zgu(B:Bl mg)(F:Fun K "trimmed" "trimmed" ycY f fd):FnOk P w K mg base CX0 1 f fd ["things"] (ydC K):=by
 refine F.ok zcc (λvs H Q E h=>?_) (λcdv A outer s H vs Q E hr h=>?_)
 ·rcases h with⟨a,ns,rfl,_⟩ |⟨a,ns,rfl,_⟩ <;> rfl
 obtain⟨a,ns,rfl,hs,hl,q⟩:∃(a:Addr) (ns:List Nat),vs=[.ref a]/\(SqL K H a (ns.map Vn)\/SqT K H a (ns.map Vn))/\ns.length<=1000/\((SqL K H a (ns.map Vn)/\∀r H',Same H H'->H r=none->H' r=some (.tup ((trim ns).map Vn))->Q (.ref r) H')\/(SqT K H a (ns.map Vn)/\∀r H',Same H H'->SqT K H' r ((trim ns).map Vn)->Q (.ref r) H')):=by
  rcases h with⟨a,ns,e,ha,hl,q⟩ |⟨a,ns,e,ha,hl,q⟩
  ·exact⟨a,ns,e,.inl ha,hl,.inl ⟨ha,q⟩⟩
  ·exact⟨a,ns,e,.inr ha,hl,.inr ⟨ha,q⟩⟩
 refine⟨_,(@zab _ _ _ _ _ (@zag _ _ 1 _ _ _ _ zcc.nd rfl (Or.inl rfl) (@zal _ _ _ _ _ _ _ _ _ zaj rfl (B "len" (by decide)) xAT (@zaa _ _ _ _ _ (pv 0) zac ⋯) (by decide) (by decide) ⋯ ⋯) ⋯ (by trivial)) (@zab _ _ _ _ _ (@yaL _ _ _ _ _ _ xAl (@PW.pt _ _ _ (@ygg _ _ _ _ _ _ _ (@zai _ _ _ _ _ _ _ _ ybU (pv 1) yac (yak _)) (@yek _ _ _ _ (@zai _ _ _ _ _ _ _ _ ya9 (@zan _ _ _ _ _ _ _ yhs (pv 0) (@zaf _ _ _ _ _ _ _ _ yaG (pv 1) yac) (λ_ _=>rfl)) yac (yak _))))) (@yad _ _ _ (@zbA _ _ 1 _ _ _ _ _ _ zcc.nd rfl (Or.inl rfl) yac zhl (by trivial)))) (@yad _ _ _ (@yaj _ _ _ _ (@zap _ _ _ _ _ _ _ _ _ yap rfl (B "tuple" (by decide)) zaq (@zaa _ _ _ _ _ (@zcs _ _ _ _ _ _ _ _ _ _ yhi (pv 0) zdr (@zdn _ _ _ (pv 1))) zac ⋯) (by decide) (by decide) ⋯ ⋯))))),?_⟩;refine⟨_,rfl,a,_,rfl,hs,?_⟩;refine zaL (λσ H'=>H'=H/\∃e:Nat,e<=ns.length/\trim ns=trim (ns.take e)/\σ=[some (.ref a),some (Vn e)]) (λσ _=>mI σ 1) ⟨rfl,ns.length,xA4 _,by rw[xAJ],by rw[xA0];rfl⟩ ?_;rintro σ H' ⟨rfl,e,he,ht,rfl⟩;refine zhw (b1:=decide ((0:Int)<(e:Int))) (b2:=decide (ns.getD (e-1) 0=0)) (λQ q=>⟨_,rfl,_,_,rfl,rfl,_,rfl,q⟩) (λc Q q=>?_) ?_
 ·have c':0<e:=by have:=xAj c;lia
  have eat:atI (ns.map Vn) ((e:Int)-1)=some (Vn (ns.getD (e-1) 0)):=by
   rw[show(e:Int)-1=((e-1:Nat):Int) by lia];exact zaN (zav (by lia))
  rcases hs with ha|ha
  ·exact⟨_,rfl,_,rfl,_,_,rfl,rfl,.inl ⟨a,_,_,Vn (ns.getD (e-1) 0),rfl,rfl,ha,eat,rfl,_,rfl,by rw[ybu];exact q⟩⟩
  ·exact⟨_,rfl,_,rfl,_,_,rfl,rfl,.inr ⟨a,_,_,Vn (ns.getD (e-1) 0),rfl,rfl,ha,eat,rfl,_,rfl,by rw[ybu];exact q⟩⟩
 refine ite2 (λc=>?_) (λc=>?_)
 ·simp only[xAx,xBm]at c;have hsplit:ns.take e=ns.take (e-1)++[0]:=by
   have:=ybN (l:=ns) (e:=e-1) (by lia);rw[show e-1+1=e by lia,c.2]at this;exact this
  refine⟨λσ' H''=>H''=H'/\σ'=[some (.ref a),some (Vn (e-1))],?_,?_⟩
  ·rintro σ' H'' ⟨rfl,rfl⟩;refine⟨_,?_,rfl,rfl,e-1,by lia,by rw[ht,hsplit,zb6],rfl⟩;show e-1<e;lia
  ·refine⟨_,rfl,_,_,rfl,rfl,rfl,?_⟩;show [some (V.ref a),some (V.int ((e:Int)-1))]=_;rw[show(e:Int)-1=((e-1:Nat):Int) by lia]
 ·have hfin:trim ns=ns.take e:=by
   rw[ht];rcases xAZ e with h0|h0
   ·rw[h0];rfl
   ·have hz:ns.getD (e-1) 0≠0:=by
     intro h;exact c (by simp only[xAx,xBm];exact⟨by lia,h⟩)
    have:=ybN (l:=ns) (e:=e-1) (by lia);rw[show e-1+1=e by lia]at this;rw[this,zcS hz]
  have ecut:cutV (ns.map Vn) none (some (e:Int))=(trim ns).map Vn:=by rw[ygQ _ _ (by rw[xA0];exact he),<-List.map_take,<-hfin]
  rcases q with⟨ha,q⟩ |⟨ha,q⟩
  ·refine⟨_,rfl,_,rfl,_,rfl,.inl ⟨a,_,rfl,ha,λl hl=>?_⟩⟩;rw[ecut];refine⟨l,_,rfl,.inl ⟨SqL.of yaa,λr hr=>?_⟩⟩;exact q r _ ((yab hl _).trans (yab hr _)) ((yab hl _).free hr) yaa
  ·refine⟨_,rfl,_,rfl,_,rfl,.inr ⟨a,_,rfl,ha,λe=>?_,λl hl=>?_⟩⟩
   ·rw[ecut]at e;exact⟨a,_,rfl,.inr ⟨ha,q a _ (Same.refl _) (by rw[e];exact ha)⟩⟩
   ·rw[ecut];exact⟨l,_,rfl,.inr ⟨SqT.of yaa,q l _ (yab hl _) (SqT.of yaa)⟩⟩
noncomputable def ygT(K:PySem.W.Frag):Sp:=λvs H Q _=>∃(fa ps:Addr) (p m t root:Nat) (ms:List Nat),vs=[.ref fa,Vn root,.ref ps]/\Fld K H fa p m t/\Good p m t/\0<root/\root<p^m/\(SqL K H ps (ms.map Vn)\/SqT K H ps (ms.map Vn))/\ms.length<=64/\∀r H',Same H H'->SqT K H' r ((mkL p m t root ms).map Vn)->Q (.ref r) H'
theorem zaT:yah ["field","root","powers","row","i"] ["field","root","powers"] (zae ybh):=⟨rfl,rfl,rfl,by decide +kernel,rfl,by decide +kernel,by decide +kernel⟩
theorem zhW(B:Bl mg)(xC8:Has P w K mg base 4 "row_times" ["field","one","other"] (yd4 K))(xC0:Has P w K mg base 2 "minus" ["field","one","other"] (ycq K))(xC4:Has P w K mg base 5 "power" ["field","one","many"] (zdI K))(F:Fun K "row_of_roots" "row_of_roots" ybh f fd):FnOk P w K mg base CX0 6 f fd ["field","root","powers"] (ygT K):=by
 refine F.ok zaT (λvs H Q E h=>?_) (λcdv A outer s H vs Q E hr h=>?_)
 ·obtain⟨fa,ps,p,m,t,root,ms,rfl,_⟩:=h;rfl
 obtain⟨fa,ps,p,m,t,root,ms,rfl,hF,G,h0,hq,hs,hl,q⟩:=h;have hp:=G.hp;have hm:=G.hm;refine⟨_,(@zab _ _ _ _ _ (@zag _ _ 3 _ _ _ _ zaT.nd rfl (Or.inl rfl) (@zaP _ _ _ _ _ (@zaa _ _ _ _ _ yac zac ⋯)) ⋯ (by trivial)) (@zab _ _ _ _ _ (@yaC _ _ _ _ _ _ _ _ xAl rfl (@zhg _ _ _ _ (pv 2)) (@yae _ _ 4 _ zaT.nd rfl (Or.inl rfl) (by trivial)) (@yad _ _ _ (@zag _ _ 3 _ _ _ _ zaT.nd rfl (Or.inl rfl) (@zad _ _ _ _ _ _ _ _ _ _ _ xC8 hr (by decide) rfl (@zaa _ _ _ _ _ (pv 0) (@zaa _ _ _ _ _ (pv 3) (@zaa _ _ _ _ _ (@zaP _ _ _ _ _ (@zaa _ _ _ _ _ (@zad _ _ _ _ _ _ _ _ _ _ _ xC0 hr (by decide) rfl (@zaa _ _ _ _ _ (pv 0) (@zaa _ _ _ _ _ yac (@zaa _ _ _ _ _ (@zad _ _ _ _ _ _ _ _ _ _ _ xC4 hr (by decide) rfl (@zaa _ _ _ _ _ (pv 0) (@zaa _ _ _ _ _ (pv 1) (@zaa _ _ _ _ _ (pv 4) zac ⋯) ⋯) ⋯) (by decide) ⋯ ⋯) zac ⋯) ⋯) ⋯) (by decide) ⋯ ⋯) (@zaa _ _ _ _ _ yac zac ⋯) ⋯)) zac ⋯) ⋯) ⋯) (by decide) ⋯ ⋯) ⋯ (by trivial))) (by intro _;rfl)) (@yad _ _ _ (@yaj _ _ _ _ (pv 3))))),?_⟩;refine⟨szl 1,λr0 hr0=>?_⟩;have s0:=yab hr0 (.tup [V.int 1]);have hml:∀i,i<ms.length->(mkL p m t root (ms.take i)).length=i+1:=λi hi=>by rw[zaV,xAC];lia
 have htwo:∀i,∀y∈[sub p m 0 (pw p m t root (ms.getD i 0)),1],y<p^m:=λi y hy=>by
  rcases xA9.mp hy with rfl|h
  ·exact zbS hp hm _ _
  ·rw[xAA.mp h];exact zax hp hm
 have hnext:∀i,i<ms.length->rmul p m t (mkL p m t root (ms.take i)) [sub p m 0 (pw p m t root (ms.getD i 0)),1]=mkL p m t root (ms.take (i+1)):=λi hi=>by
  have hmi:ms[i]?=some (ms.getD i 0):=by rw[xA5 hi];simp[List.getD,hi]
  rw[zeN hmi];refine ygM G (zbE G _) (zaS hp hm _ _) (by have:=hml i hi;lia) ?_;have:=yb3 G root (ms.take i);rw[xAC,show min i ms.length=i by lia]at this;rw[hml i hi,Nat.add_sub_cancel];exact this
 dsimp only[yau];rcases hs with hs|hs
 ·refine .inl ⟨_,rfl,ps,rfl,⟨_,Same.seq s0 hs⟩,?_⟩;refine yaM (yaE (xs:=ms.map Vn)) (λi σ H'=>Same H H'/\∃(rr:Addr) (s4:Option V),SqT K H' rr ((mkL p m t root (ms.take i)).map Vn)/\σ=[some (.ref fa),some (Vn root),some (.ref ps),some (.ref rr),s4]) ⟨s0,r0,none,SqT.of yaa,rfl⟩ (λi σ H' _ h=>Same.seq h.1 hs) ?_ ?_
  ·rintro i z σ H2 H2' hi ⟨s2,rr,s4,hrr,rfl⟩ ⟨rfl,ez⟩;rw[xA0]at hi;rw[zav hi]at ez;cases ez;refine⟨_,rfl,_,rfl,_,rfl,_,rfl,_,rfl,_,rfl,fa,p,m,t,root,((ms.getD i 0:Nat):Int),rfl,Same.tup s2 hF,G,hq,λh=>by lia,?_⟩;rw[zcP G hq];refine⟨fa,p,m,t,0,_,rfl,Same.tup s2 hF,hp,p_le hp hm G.hq,λr h2=>?_⟩;cases yeY hp hm (yal hp hm) (zaS hp hm _ _) h2;refine⟨szl 2,λtt htt=>?_⟩;have st:=yab htt (.tup [Vn (sub p m 0 (pw p m t root (ms.getD i 0))),.int 1]);refine⟨fa,rr,tt,p,m,t,mkL p m t root (ms.take i),[sub p m 0 (pw p m t root (ms.getD i 0)),1],rfl,Same.tup (s2.trans st) hF,G,Same.tup st hrr,SqT.of yaa,by have:=hml i hi;lia,by show 2<=200;decide,zbE G _,htwo i,λr H3 s3 nr er=>?_⟩;rw[hnext i hi]at er;exact⟨(s2.trans st).trans s3,r,_,SqT.of er,rfl⟩
  ·rw[xA0];rintro σ H2 ⟨s2,rr,s4,hrr,rfl⟩;rw[xAJ]at hrr;exact⟨_,rfl,q rr H2 s2 hrr⟩
 ·refine .inr ⟨_,rfl,ps,rfl,⟨_,Same.tup s0 hs⟩,?_⟩;refine yaM (zbt (xs:=ms.map Vn)) (λi σ H'=>Same H H'/\∃(rr:Addr) (s4:Option V),SqT K H' rr ((mkL p m t root (ms.take i)).map Vn)/\σ=[some (.ref fa),some (Vn root),some (.ref ps),some (.ref rr),s4]) ⟨s0,r0,none,SqT.of yaa,rfl⟩ (λi σ H' _ h=>Same.tup h.1 hs) ?_ ?_
  ·rintro i z σ H2 H2' hi ⟨s2,rr,s4,hrr,rfl⟩ ⟨rfl,ez⟩;rw[xA0]at hi;rw[zav hi]at ez;cases ez;refine⟨_,rfl,_,rfl,_,rfl,_,rfl,_,rfl,_,rfl,fa,p,m,t,root,((ms.getD i 0:Nat):Int),rfl,Same.tup s2 hF,G,hq,λh=>by lia,?_⟩;rw[zcP G hq];refine⟨fa,p,m,t,0,_,rfl,Same.tup s2 hF,hp,p_le hp hm G.hq,λr h2=>?_⟩;cases yeY hp hm (yal hp hm) (zaS hp hm _ _) h2;refine⟨szl 2,λtt htt=>?_⟩;have st:=yab htt (.tup [Vn (sub p m 0 (pw p m t root (ms.getD i 0))),.int 1]);refine⟨fa,rr,tt,p,m,t,mkL p m t root (ms.take i),[sub p m 0 (pw p m t root (ms.getD i 0)),1],rfl,Same.tup (s2.trans st) hF,G,Same.tup st hrr,SqT.of yaa,by have:=hml i hi;lia,by show 2<=200;decide,zbE G _,htwo i,λr H3 s3 nr er=>?_⟩;rw[hnext i hi]at er;exact⟨(s2.trans st).trans s3,r,_,SqT.of er,rfl⟩
  ·rw[xA0];rintro σ H2 ⟨s2,rr,s4,hrr,rfl⟩;rw[xAJ]at hrr;exact⟨_,rfl,q rr H2 s2 hrr⟩
noncomputable def ye0(K:PySem.W.Frag):Sp:=λvs H Q _=>∃(wh fa mk:Addr) (p m t few root:Nat) (marks:List Nat),vs=[.ref wh]/\WhAt H wh fa mk few root marks/\Fld K H fa p m t/\Good p m t/\0<root/\root<p^m/\marks.length<=64/\∀r H',Same H H'->SqT K H' r ((mkL p m t root marks).map Vn)->Q (.ref r) H'
theorem zb4:yah ["wheel","field","few","root","marks"] ["wheel"] (zae zeI):=⟨rfl,rfl,rfl,by decide +kernel,rfl,by decide +kernel,by decide +kernel⟩
theorem ygG(B:Bl mg)(xC6:Has P w K mg base 6 "row_of_roots" ["field","root","powers"] (ygT K))(F:Fun K "maker" "maker" zeI f fd):FnOk P w K mg base CX0 7 f fd ["wheel"] (ye0 K):=by
 refine F.ok zb4 (λvs H Q E h=>?_) (λcdv A outer s H vs Q E hr h=>?_)
 ·obtain⟨wh,fa,mk,p,m,t,few,root,marks,rfl,_⟩:=h;rfl
 obtain⟨wh,fa,mk,p,m,t,few,root,marks,rfl,hW,hF,G,h0,hq,hl,q⟩:=h;refine⟨_,(@zab _ _ _ _ _ (@yaU _ _ _ _ _ _ (pv 0) (@za2 _ _ _ _ _ _ rfl (@zah _ _ _ _ _ (@yae _ _ 1 _ zb4.nd rfl (Or.inl rfl) (by trivial)) (@zah _ _ _ _ _ (@yae _ _ 2 _ zb4.nd rfl (Or.inl rfl) (by trivial)) (@zah _ _ _ _ _ (@yae _ _ 3 _ zb4.nd rfl (Or.inl rfl) (by trivial)) (@zah _ _ _ _ _ (@yae _ _ 4 _ zb4.nd rfl (Or.inl rfl) (by trivial)) zaE ⋯) ⋯) ⋯) ⋯) ⋯ ⋯) ⋯ ⋯ ⋯) (@yad _ _ _ (@yaj _ _ _ _ (@zad _ _ _ _ _ _ _ _ _ _ _ xC6 hr (by decide) rfl (@zaa _ _ _ _ _ (pv 1) (@zaa _ _ _ _ _ (pv 3) (@zaa _ _ _ _ _ (pv 4) zac ⋯) ⋯) ⋯) (by decide) ⋯ ⋯)))),?_⟩;refine⟨_,rfl,wh,_,rfl,SqT.of hW.w,rfl,_,_,rfl,_,_,rfl,_,_,rfl,_,_,rfl,rfl,?_⟩;exact⟨_,rfl,_,rfl,_,rfl,fa,mk,p,m,t,root,marks,rfl,hF,G,h0,hq,.inr (SqT.of hW.k),hl,q⟩
noncomputable def ye3(K:PySem.W.Frag):Sp:=λvs H Q _=>∃(fa a b:Addr) (p m t:Nat) (one ds:List Nat),vs=[.ref fa,.ref a,.ref b]/\Fld K H fa p m t/\Good p m t/\SqT K H a (one.map Vn)/\SqT K H b (ds.map Vn)/\one.length<=200/\ds.length<=200/\0<ds.length/\0<ds.getD (ds.length-1) 0/\(∀x∈one,x<p^m)/\(∀x∈ds,x<p^m)/\
 ∀r q1 q2 H',Same H H'->H' r=some (.tup [.ref q1,.ref q2])->H' q1=some (.tup ((trim (dvQ p m t ds one (one.length+1-ds.length) (one.length+1-ds.length))).map Vn))->H' q2=some (.tup ((trim (dvI p m t ds one (one.length+1-ds.length) (one.length+1-ds.length))).map Vn))->Q (.ref r) H'
theorem zaO:yah ["field","one","other","rest","quotient","at","factor","k","thing"] ["field","one","other"] (zae ycd):=⟨rfl,rfl,rfl,by decide +kernel,rfl,by decide +kernel,by decide +kernel⟩
theorem zgm(B:Bl mg)(xC2:Has P w K mg base 5 "over" ["field","one","other"] (yfs K))(xC0:Has P w K mg base 2 "minus" ["field","one","other"] (ycq K))(xC9:Has P w K mg base 3 "times" ["field","one","other"] (ybv K))(xCb:Has P w K mg base 1 "trimmed" ["things"] (ydq K))(F:Fun K "row_over" "row_over" ycd f fd):FnOk P w K mg base CX0 6 f fd ["field","one","other"] (ye3 K):=by
 refine F.ok zaO (λvs H Q E h=>?_) (λcdv A outer s H vs Q E hr h=>?_)
 ·obtain⟨fa,a,b,p,m,t,one,ds,rfl,_⟩:=h;rfl
 obtain⟨fa,a,b,p,m,t,one,ds,rfl,hF,G,ha,hb,lo,ld,hd,hlast,ho,hds,q⟩:=h;have hp:=G.hp;have hm:=G.hm;have hp2:=p_le hp hm G.hq;refine⟨_,(@zab _ _ _ _ _ (@za3 _ _ _ _ _ _ _ _ (@zai _ _ _ _ _ _ _ _ (zh1 hr.units0) (pv 2) (@zaP _ _ _ _ _ zac) (yak _)) (@yad _ _ _ zct) zaw) (@zab _ _ _ _ _ (@zag _ _ 3 _ _ _ _ zaO.nd rfl (Or.inl rfl) (@zap _ _ _ _ _ _ _ _ _ zbF rfl (B "list" (by decide)) za0 (@zaa _ _ _ _ _ (pv 1) zac ⋯) (by decide) (by decide) ⋯ ⋯) ⋯ (by trivial)) (@zab _ _ _ _ _ (@zag _ _ 4 _ _ _ _ zaO.nd rfl (Or.inl rfl) (@zaf _ _ _ _ _ _ _ _ ycn (@yaA _ _ _ _ (@zaa _ _ _ _ _ yac zac ⋯)) (@zal _ _ _ _ _ _ _ _ _ (zf4 rfl) rfl (B "max" (by decide)) ycC (@zaa _ _ _ _ _ yac (@zaa _ _ _ _ _ (@zaf _ _ _ _ _ _ _ _ zau (@zaf _ _ _ _ _ _ _ _ yaG (@zal _ _ _ _ _ _ _ _ _ zaj rfl (B "len" (by decide)) xAT (@zaa _ _ _ _ _ (pv 1) zac ⋯) (by decide) (by decide) ⋯ ⋯) (@zal _ _ _ _ _ _ _ _ _ zaj rfl (B "len" (by decide)) xAT (@zaa _ _ _ _ _ (pv 2) zac ⋯) (by decide) (by decide) ⋯ ⋯)) yac) zac ⋯) ⋯) (by decide) (by decide) ⋯ ⋯)) ⋯ (by trivial)) (@zab _ _ _ _ _ (@yaC _ _ _ _ _ _ _ _ xAl rfl (@yg6 _ _ _ _ _ _ rfl (B "reversed" (by decide)) (@zaa _ _ _ _ _ (@zcG _ _ _ _ _ rfl (B "range" (by decide)) (@zaa _ _ _ _ _ (@zal _ _ _ _ _ _ _ _ _ zaj rfl (B "len" (by decide)) xAT (@zaa _ _ _ _ _ (pv 4) zac ⋯) (by decide) (by decide) ⋯ ⋯) zac ⋯) ⋯) zac ⋯) ⋯) (@yae _ _ 5 _ zaO.nd rfl (Or.inl rfl) (by trivial)) (@zab _ _ _ _ _ (@zag _ _ 6 _ _ _ _ zaO.nd rfl (Or.inl rfl) (@zad _ _ _ _ _ _ _ _ _ _ _ xC2 hr (by decide) rfl (@zaa _ _ _ _ _ (pv 0) (@zaa _ _ _ _ _ (@zan _ _ _ _ _ _ _ zao (pv 3) (@zaf _ _ _ _ _ _ _ _ yaG (@zaf _ _ _ _ _ _ _ _ zau (pv 5) (@zal _ _ _ _ _ _ _ _ _ zaj rfl (B "len" (by decide)) xAT (@zaa _ _ _ _ _ (pv 2) zac ⋯) (by decide) (by decide) ⋯ ⋯)) yac) (λ_ _=>rfl)) (@zaa _ _ _ _ _ (@zan _ _ _ _ _ _ _ zas (pv 2) (@zfJ _ _ _ _ _ _ zdW yac) (λ_ _=>rfl)) zac ⋯) ⋯) ⋯) (by decide) ⋯ ⋯) ⋯ (by trivial)) (@zab _ _ _ _ _ (@yaU _ _ _ _ _ _ (pv 6) (@zb5 _ _ _ _ _ _ _ (pv 4) (pv 5) yaW (by intro _;rfl)) ⋯ ⋯ ⋯) (@yad _ _ _ (@yaC _ _ _ _ _ _ _ _ xAl rfl (@ybC _ _ _ _ _ _ _ _ rfl (B "enumerate" (by decide)) (@zaa _ _ _ _ _ (pv 2) zac ⋯) ⋯) (@za2 _ _ _ _ _ _ rfl (@zah _ _ _ _ _ (@yae _ _ 7 _ zaO.nd rfl (Or.inl rfl) (by trivial)) (@zah _ _ _ _ _ (@yae _ _ 8 _ zaO.nd rfl (Or.inl rfl) (by trivial)) zaE ⋯) ⋯) ⋯ ⋯) (@yad _ _ _ (@yaU _ _ _ _ _ _ (@zad _ _ _ _ _ _ _ _ _ _ _ xC0 hr (by decide) rfl (@zaa _ _ _ _ _ (pv 0) (@zaa _ _ _ _ _ (@zan _ _ _ _ _ _ _ zao (pv 3) (@zaf _ _ _ _ _ _ _ _ zau (pv 5) (pv 7)) (λ_ _=>rfl)) (@zaa _ _ _ _ _ (@zad _ _ _ _ _ _ _ _ _ _ _ xC9 hr (by decide) rfl (@zaa _ _ _ _ _ (pv 0) (@zaa _ _ _ _ _ (pv 6) (@zaa _ _ _ _ _ (pv 8) zac ⋯) ⋯) ⋯) (by decide) ⋯ ⋯) zac ⋯) ⋯) ⋯) (by decide) ⋯ ⋯) (@zb5 _ _ _ _ _ _ _ (pv 3) (@zaf _ _ _ _ _ _ _ _ zau (pv 5) (pv 7)) yaW (by intro _;rfl)) ⋯ ⋯ ⋯)) (by intro _;rfl))))) (by intro _;rfl)) (@yad _ _ _ (@yaj _ _ _ _ (@zaP _ _ _ _ _ (@zaa _ _ _ _ _ (@zad _ _ _ _ _ _ _ _ _ _ _ xCb hr (by decide) rfl (@zaa _ _ _ _ _ (pv 4) zac ⋯) (by decide) ⋯ ⋯) (@zaa _ _ _ _ _ (@zad _ _ _ _ _ _ _ _ _ _ _ xCb hr (by decide) rfl (@zaa _ _ _ _ _ (pv 3) zac ⋯) (by decide) ⋯ ⋯) zac ⋯) ⋯)))))))),?_⟩
 refine⟨_,rfl,szl 0,λe0 he0=>?_⟩;have t0:=yab he0 (.tup []);refine⟨b,e0,ds.map (λx:Nat=>(x:Int)),[],rfl,rfl,by rw[mapI];exact Same.tup t0 hb,SqT.of yaa,_,rfl,?_⟩;refine ite2 (λc=>?_) (λ_=>?_)
 ·have c':ds.map (λx:Nat=>(x:Int))=[]:=by simpa using c
  have:=congrArg List.length c';rw[xA0]at this;have h0:ds.length=0:=this;lia
 dsimp only[yfr];refine⟨_,rfl,a,_,rfl,.inr (Same.tup t0 ha),λrs hrs=>?_⟩;have t1:=t0.trans (yab hrs (.lst (one.map Vn)));have ers:upd (upd H e0 (.tup [])) rs (.lst (one.map Vn)) rs=some (.lst (one.map Vn)):=yaa;have nrs:=t0.free hrs;dsimp only[yau];generalize upd (upd H e0 (.tup [])) rs (.lst (one.map Vn))=H1 at t1 ers ⊢;refine⟨szl 1,λl0 hl0=>?_⟩;have t2:=yab hl0 (.lst [V.int 0]);refine⟨_,rfl,a,_,rfl,.inr (Same.tup (t1.trans t2) ha),_,rfl,b,_,rfl,.inr (Same.tup (t1.trans t2) hb),_,_,rfl,rfl,_,_,rfl,rfl,_,_,rfl,?_⟩;have eN:(if (((one.map Vn).length:Nat):Int)-(((ds.map Vn).length:Nat):Int)+1>0 then(((one.map Vn).length:Nat):Int)-(((ds.map Vn).length:Nat):Int)+1 else 0)=((one.length+1-ds.length:Nat):Int):=by
  rw[xA0,xA0];split <;> lia
 rw[eN];obtain⟨N,hN⟩:∃N,one.length+1-ds.length=N:=⟨_,rfl⟩
 rw[hN]at q ⊢;refine⟨l0,(N:Int),_,rfl,rfl,yaa,by lia,by lia,by rw[xAs];exact szl _ (by simp;lia),λqt hqt=>?_⟩;rw[xAs,zcu,<-ygK p m t ds one N];have t3:=t2.trans (yab hqt (.lst ((dvQ p m t ds one N 0).map Vn)));have nqt:=(t1.trans t2).free hqt;have eqt:upd (upd H1 l0 (.lst [V.int 0])) qt (.lst ((dvQ p m t ds one N 0).map Vn)) qt=some (.lst ((dvQ p m t ds one N 0).map Vn)):=yaa;have ers3:=t3 _ _ ers;dsimp only[yau];generalize upd (upd H1 l0 (.lst [V.int 0])) qt (.lst ((dvQ p m t ds one N 0).map Vn))=H3 at t3 eqt ers3 ⊢;have s3:=t1.trans t3;have nqr:rs≠qt:=λe=>by
  have h1:H1 qt=none:=t2.free hqt;rw[<-e,ers]at h1;cases h1
 refine⟨_,rfl,qt,_,rfl,.inl (SqL.of eqt),_,rfl,λrg hrg=>?_⟩;refine⟨rg,N,rfl,by rw[yaa,xA0,zel],by lia,?_⟩;have s4:=s3.trans (yab hrg (.rng 0 (((dvQ p m t ds one N 0).map Vn).length:Int)));refine yaM zea (λi σ H'=>Same H H'/\H' rs=some (.lst ((dvI p m t ds one N i).map Vn))/\H' qt=some (.lst ((dvQ p m t ds one N i).map Vn))/\∃s5 s6 s7 s8,σ=[some (.ref fa),some (.ref a),some (.ref b),some (.ref rs),some (.ref qt),s5,s6,s7,s8]) ⟨s4,(yab hrg _) _ _ ers3,(yab hrg _) _ _ eqt,none,none,none,none,rfl⟩ (λ_ _ _ _ _=>trivial) ?_ ?_
 ·rintro i z σ H5 H5' hi ⟨s5',er5,eq5,x5,x6,x7,x8,rfl⟩ ⟨rfl,rfl⟩;have hlen:=zcg p m t ds one N i;have hlt:=ycl (ds:=ds) (N:=N) G ho i;have hlN:ds.length<=one.length:=by lia
  have eat:(N:Int)-1-(i:Int)=((N-1-i:Nat):Int):=by lia
  obtain⟨at',hat⟩:∃a',N-1-i=a':=⟨_,rfl⟩
  refine⟨_,rfl,_,rfl,_,rfl,_,rfl,b,_,rfl,.inr (Same.tup s5' hb),_,_,rfl,rfl,_,_,rfl,rfl,rs,_,_,Vn ((dvI p m t ds one N i).getD (at'+ds.length-1) 0),rfl,rfl,SqL.of er5,?_,?_⟩
  ·rw[xA0,eat,hat,show((at':Nat):Int)+((ds.length:Nat):Int)-1=((at'+ds.length-1:Nat):Int) by lia];exact zaN (zav (by rw[hlen];lia))
  refine⟨_,rfl,_,rfl,b,_,_,Vn (ds.getD (ds.length-1) 0),rfl,rfl,Same.tup s5' hb,?_,?_⟩
  ·exact zgO (by rw[xA0];exact zav (by lia))
  refine⟨fa,p,m,t,_,_,rfl,Same.tup s5' hF,G,zbI G hlt _,hlast,zbI G hds _,?_⟩;have eF:mul p m t ((dvI p m t ds one N i).getD (at'+ds.length-1) 0) (pw p m t (ds.getD (ds.length-1) 0) (p^m-2))=dvF p m t ds (dvI p m t ds one N i) at':=rfl;rw[eF];dsimp only[yau];refine⟨_,rfl,_,rfl,_,rfl,?_⟩;refine⟨qt,_,_,at',rfl,rfl,eq5,by rw[xA0,zel,eat,hat];exact zdL (by lia),?_⟩;rw[yem];have eQ:(dvQ p m t ds one N i).set at' (dvF p m t ds (dvI p m t ds one N i) at')=dvQ p m t ds one N (i+1):=by rw[<-hat];exact zhm hi
  rw[eQ];have s6:=ybf (l:=qt) (o:=.lst ((dvQ p m t ds one N (i+1)).map Vn)) s5' nqt;have er6:upd H5' qt (.lst ((dvQ p m t ds one N (i+1)).map Vn)) rs=some (.lst ((dvI p m t ds one N i).map Vn)):=by rw[yag nqr];exact er5
  have eq6:upd H5' qt (.lst ((dvQ p m t ds one N (i+1)).map Vn)) qt=some (.lst ((dvQ p m t ds one N (i+1)).map Vn)):=yaa;generalize upd H5' qt (.lst ((dvQ p m t ds one N (i+1)).map Vn))=H6 at s6 er6 eq6 ⊢;have eI:dvI p m t ds one N (i+1)=dvJ p m t ds (dvI p m t ds one N i) at' (dvF p m t ds (dvI p m t ds one N i) at') ds.length:=by rw[<-hat];rfl
  have hclt:=zhQ G ds (dvI p m t ds one N i) at';rw[<-ygk p m t ds (dvI p m t ds one N i) at' (dvF p m t ds (dvI p m t ds one N i) at')]at er6;generalize dvF p m t ds (dvI p m t ds one N i) at'=cc at er6 eI hclt ⊢;rw[eI];generalize dvI p m t ds one N i=R at hlen hlt er6 ⊢;refine⟨_,rfl,true,b,rfl,⟨_,Same.tup s6 hb⟩,?_⟩;refine yaM (ya1 (b:=true) (xs:=ds.map Vn)) (λj σ H'=>Same H H'/\H' rs=some (.lst ((dvJ p m t ds R at' cc j).map Vn))/\H' qt=some (.lst ((dvQ p m t ds one N (i+1)).map Vn))/\∃s7 s8,σ=[some (.ref fa),some (.ref a),some (.ref b),some (.ref rs),some (.ref qt),some (.int ((N:Int)-1-(i:Int))),some (Vn cc),s7,s8]) ⟨s6,er6,eq6,_,_,rfl⟩ (λ_ _ _ _ h=>Same.tup h.1 hb) ?_ ?_
  ·rintro j z σ H7 H8 hj ⟨s7,er7,eq7,y7,y8,rfl⟩ ⟨T,u,rfl,eu,hT,rfl⟩;rw[xA0]at hj;rw[zav hj]at eu;cases eu;have sT:=s7.trans (yab hT (.tup [.int (j:Int),Vn (ds.getD j 0)]));have er8:=(yab hT (.tup [.int (j:Int),Vn (ds.getD j 0)])) _ _ er7;have eq8:=(yab hT (.tup [.int (j:Int),Vn (ds.getD j 0)])) _ _ eq7;refine⟨T,_,rfl,SqT.of yaa,rfl,_,_,rfl,_,_,rfl,rfl,?_⟩;generalize upd H7 T (.tup [.int (j:Int),Vn (ds.getD j 0)])=H8 at sT er8 eq8 ⊢;have hF8:Fld K H8 fa p m t:=Same.tup sT hF;refine⟨_,rfl,_,rfl,_,rfl,_,rfl,_,_,rfl,rfl,rs,_,_,Vn (R.getD (at'+j) 0),rfl,rfl,SqL.of er8,?_,?_⟩
   ·rw[eat,hat,show((at':Nat):Int)+((j:Nat):Int)=((at'+j:Nat):Int) by lia];refine zaN ?_;rw[zav (by rw[ycT,hlen];lia),zeF (by rw[hlen];lia),if_neg (by lia)]
   refine⟨_,rfl,_,rfl,_,rfl,fa,p,m,t,cc,ds.getD j 0,rfl,hF8,hp,hm,G.hq,G.top,hclt,zbI G hds j,λr br h1=>?_⟩;cases yb4 hp hm br h1;refine⟨fa,p,m,t,_,_,rfl,hF8,hp,hp2,λr h2=>?_⟩;cases yeY hp hm (zbI G hlt _) (zaA hp hm _ _) h2;refine⟨_,rfl,_,rfl,_,rfl,_,_,rfl,rfl,?_⟩;refine⟨rs,_,_,at'+j,rfl,rfl,er8,?_,?_⟩
   ·rw[xA0,ycT,eat,hat,show((at':Nat):Int)+((j:Nat):Int)=((at'+j:Nat):Int) by lia];exact zdL (by rw[hlen];lia)
   ·rw[yem,yhb];exact⟨ybf sT nrs,yaa,by rw[yag (λe=>nqr e.symm)];exact eq8,_,_,rfl⟩
  ·rw[xA0];rintro σ H7 ⟨s7,er7,eq7,y7,y8,rfl⟩;exact⟨s7,er7,eq7,_,_,_,_,rfl⟩
 ·rintro σ H5 ⟨s5',er5,eq5,x5,x6,x7,x8,rfl⟩;refine⟨_,rfl,qt,dvQ p m t ds one N N,rfl,SqL.of eq5,by rw[zel];lia,λq1 H6 s6 nq1 eq1=>?_⟩;refine⟨_,rfl,rs,dvI p m t ds one N N,rfl,SqL.of (s6 _ _ er5),by rw[zcg];lia,λq2 H7 s7 nq2 eq2=>?_⟩;refine⟨szl 2,λr hr'=>?_⟩;have s8:=yab hr' (.tup [.ref q1,.ref q2]);exact q r q1 q2 _ (s5'.trans (s6.trans (s7.trans s8))) yaa (s8 _ _ (s7 _ _ eq1)) (s8 _ _ eq2)
noncomputable def yge(K:PySem.W.Frag):Sp:=λvs H Q _=>∃(wh fa mk gv:Addr) (p m t few root:Nat) (marks gs:List Nat),vs=[.ref wh,.ref gv]/\WhAt H wh fa mk few root marks/\Fld K H fa p m t/\Good p m t/\0<root/\root<p^m/\marks.length<=64/\SqT K H gv (gs.map Vn)/\gs.length<=64/\(∀x∈gs,x<p^m)/\∀r H',Same H H'->SqT K H' r ((mdL p m t root marks gs).map Vn)->Q (.ref r) H'
theorem ybT:yah ["wheel","given","field","few","root","marks","bound","rest"] ["wheel","given"] (zae yeK):=⟨rfl,rfl,rfl,by decide +kernel,rfl,by decide +kernel,by decide +kernel⟩
theorem yhh(B:Bl mg)(xC7:Has P w K mg base 6 "row_over" ["field","one","other"] (ye3 K))(xCb:Has P w K mg base 1 "trimmed" ["things"] (ydC K))(xBY:Has P w K mg base 7 "maker" ["wheel"] (ye0 K))(xC0:Has P w K mg base 2 "minus" ["field","one","other"] (ycq K))(xCd:Has P w K mg base 1 "widened" ["row","many"] (ygY K))(F:Fun K "made" "made" yeK f fd):FnOk P w K mg base CX0 8 f fd ["wheel","given"] (yge K):=by
 refine F.ok ybT (λvs H Q E h=>?_) (λcdv A outer s H vs Q E hr h=>?_)
 ·obtain⟨wh,fa,mk,gv,p,m,t,few,root,marks,gs,rfl,_⟩:=h;rfl
 obtain⟨wh,fa,mk,gv,p,m,t,few,root,marks,gs,rfl,hW,hF,G,h0,hq,hml,hgv,hgl,hgs,q⟩:=h;have hp:=G.hp;have hm:=G.hm;have hp2:=p_le hp hm G.hq;refine⟨_,(@zab _ _ _ _ _ (@yaU _ _ _ _ _ _ (pv 0) (@za2 _ _ _ _ _ _ rfl (@zah _ _ _ _ _ (@yae _ _ 2 _ ybT.nd rfl (Or.inr rfl) (by trivial)) (@zah _ _ _ _ _ (@yae _ _ 3 _ ybT.nd rfl (Or.inl rfl) (by trivial)) (@zah _ _ _ _ _ (@yae _ _ 4 _ ybT.nd rfl (Or.inl rfl) (by trivial)) (@zah _ _ _ _ _ (@yae _ _ 5 _ ybT.nd rfl (Or.inl rfl) (by trivial)) zaE ⋯) ⋯) ⋯) ⋯) ⋯ ⋯) ⋯ ⋯ ⋯) (@zab _ _ _ _ _ (@zag _ _ 6 _ _ _ _ ybT.nd rfl (Or.inl rfl) (@zal _ _ _ _ _ _ _ _ _ zaj rfl (B "len" (by decide)) xAT (@zaa _ _ _ _ _ (pv 5) zac ⋯) (by decide) (by decide) ⋯ ⋯) ⋯ (by trivial)) (@zab _ _ _ _ _ (@zag _ _ 7 _ _ _ _ ybT.nd rfl (Or.inl rfl) (@zan _ _ _ _ _ _ _ zas (@zad _ _ _ _ _ _ _ _ _ _ _ xC7 hr (by decide) rfl (@zaa _ _ _ _ _ (pv 2) (@zaa _ _ _ _ _ (@zad _ _ _ _ _ _ _ _ _ _ _ xCb hr (by decide) rfl (@zaa _ _ _ _ _ (@zaf _ _ _ _ _ _ _ _ ycP (@zaf _ _ _ _ _ _ _ _ zcL (@zaP _ _ _ _ _ (@zaa _ _ _ _ _ yac zac ⋯)) (pv 6)) (pv 1)) zac ⋯) (by decide) ⋯ ⋯) (@zaa _ _ _ _ _ (@zad _ _ _ _ _ _ _ _ _ _ _ xBY hr (by decide) rfl (@zaa _ _ _ _ _ (pv 0) zac ⋯) (by decide) ⋯ ⋯) zac ⋯) ⋯) ⋯) (by decide) ⋯ ⋯) yac (λ_ _=>rfl)) ⋯ (by trivial)) (@yad _ _ _ (@yaj _ _ _ _ (@zaf _ _ _ _ _ _ _ _ ycP (@zap _ _ _ _ _ _ _ _ _ yap rfl (B "tuple" (by decide)) zaq (@zaa _ _ _ _ _ (@yaF _ _ _ _ _ _ _ ["thing"] ["field"] [2] _ _ _ _ (id (α:=CSc ["wheel","given","field","few","root","marks","bound","rest"] (zae yeK) ["thing"] ["field"] [2] _) ⟨by rfl,by decide +kernel,by decide +kernel,by decide +kernel,by decide +kernel,by rfl,by decide +kernel⟩) rfl (@yaN _ _ _ _ (@zad _ _ _ _ _ _ _ _ _ _ _ xCd hr (by decide) rfl (@zaa _ _ _ _ _ (pv 7) (@zaa _ _ _ _ _ (pv 6) zac ⋯) ⋯) (by decide) ⋯ ⋯)) (λcl C fp s H=>(@yae _ _ 0 _ (by show List.Nodup (["thing","field"]:List Str);decide +kernel) rfl (Or.inl rfl) (by trivial))) (λ_ _ _ _ _=>zaM) (λ_ _ _ _ _=>(@zad _ _ _ _ _ _ _ _ _ _ _ xC0 hr (by decide) rfl (@zaa _ _ _ _ _ (pv 1) (@zaa _ _ _ _ _ yac (@zaa _ _ _ _ _ (pv 0) zac ⋯) ⋯) ⋯) (by decide) ⋯ ⋯)) (by intro _;rfl)) zac ⋯) (by decide) (by decide) ⋯ ⋯) (pv 1))))))),?_⟩;refine⟨_,rfl,wh,_,rfl,SqT.of hW.w,rfl,_,_,rfl,_,_,rfl,_,_,rfl,_,_,rfl,rfl,?_⟩;refine⟨_,rfl,mk,_,rfl,.inr (SqT.of hW.k),?_⟩;rw[xA0];dsimp only[yau];refine⟨_,rfl,szl 1,λz hz=>?_⟩;have t1:=yab hz (.tup [.int 0]);refine⟨_,rfl,yds (SqT.of yaa) (by lia) λz2 H2 t2 hz2=>?_⟩;refine⟨_,rfl,zdD hz2 (Same.tup (t1.trans t2) hgv) (by rw[xA0,xA0,xAq];lia) λz3 H3 t3 hz3=>?_⟩;rw[<-xAe]at hz3;refine .inr ⟨z3,_,rfl,hz3,by rw[xAt,xAq];lia,λz4 H4 t4 hz4=>?_⟩;have s4:=(t1.trans t2).trans (t3.trans t4);refine⟨_,rfl,wh,fa,mk,p,m,t,few,root,marks,rfl,hW.same s4,Same.tup s4 hF,G,h0,hq,hml,λmr H5 t5 hmr=>?_⟩;have s5:=s4.trans t5;have hRl:(mdR p m t root marks gs).length<=marks.length+gs.length:=by
  have:=yeE (List.replicate marks.length 0++gs);rw[xAt,xAq]at this;exact this
 have hkl:=zaV p m t root marks;refine⟨fa,z4,mr,p,m,t,mdR p m t root marks gs,mkL p m t root marks,rfl,Same.tup s5 hF,G,Same.tup t5 hz4,hmr,by lia,by lia,by lia,by rw[hkl,Nat.add_sub_cancel,yb3 G];exact Nat.one_pos,zeW G hgs,zbE G marks,λrr q1 q2 H6 t6 err eq1 eq2=>?_⟩;have s6:=s5.trans t6;refine⟨rr,_,_,.ref q2,rfl,rfl,SqT.of err,rfl,?_⟩;dsimp only[yau];have htr:=zcr (root:=root) (marks:=marks) G hgs;have eL:mdL p m t root marks gs=((wid (trim (dvI p m t (mkL p m t root marks) (mdR p m t root marks gs) (mdN p m t root marks gs) (mdN p m t root marks gs))) marks.length).map (sub p m 0))++gs:=rfl;have hlt:∀x∈trim (dvI p m t (mkL p m t root marks) (mdR p m t root marks gs) (mdN p m t root marks gs) (mdN p m t root marks gs)),x<p^m:=λx hx=>ycl G (zeW G hgs) _ x (yct _ _ hx)
 change H6 q2=some (.tup ((trim (dvI p m t (mkL p m t root marks) (mdR p m t root marks gs) (mdN p m t root marks gs) (mdN p m t root marks gs))).map Vn)) at eq2;rw[eL]at q;generalize trim (dvI p m t (mkL p m t root marks) (mdR p m t root marks gs) (mdN p m t root marks gs) (mdN p m t root marks gs))=R at htr hlt eq2 q;refine⟨_,rfl,_,rfl,q2,R,marks.length,rfl,SqT.of eq2,htr,by lia,λwl H7 t7 nwl ewl=>?_⟩;have s7:=s6.trans t7;have hwl:=ydo htr;have hwlt:=ygU (n:=marks.length) (yal hp hm) hlt;refine⟨wl,rfl,⟨_,SqL.of ewl⟩,?_⟩;refine yav (yaE (xs:=(wid R marks.length).map Vn)) (λk acc H'=>H'=H7/\acc=(((wid R marks.length).take k).map (sub p m 0)).map Vn) ⟨rfl,rfl⟩ (λi acc H' _ h=>h.1 ▸ SqL.of ewl) ?_ ?_ ?_
 ·rintro k acc H' hk ⟨_,rfl⟩;rw[xA0,hwl]at hk;rw[xA0,xA0,xAC];exact yao (by lia)
 ·rintro k acc x H8 H8' hk ⟨rfl,rfl⟩ ⟨rfl,ez⟩;rw[xA0]at hk;rw[zav hk]at ez;cases ez;refine⟨_,rfl,_,rfl,fa,p,m,t,0,(wid R marks.length).getD k 0,rfl,Same.tup s7 hF,hp,hp2,λr h=>?_⟩;cases yeY hp hm (yal hp hm) (yaO hwlt hk) h;refine⟨rfl,?_⟩;rw[ybN hk,xAe,xAe];rfl
 rw[xA0];rintro acc H8 ⟨rfl,rfl⟩ D hD;rw[xAJ];have t8:=yab hD (.lst (((wid R marks.length).map (sub p m 0)).map Vn));refine⟨D,_,rfl,.inl ⟨SqL.of yaa,λtp htp=>?_⟩⟩;have t9:=t8.trans (yab htp (.tup (((wid R marks.length).map (sub p m 0)).map Vn)));refine⟨_,rfl,zdD (SqT.of yaa) (Same.tup (s7.trans t9) hgv) (by rw[xA0,xA0,hwl,xA0];lia) λr H9 t10 hr=>?_⟩;rw[<-xAe]at hr;exact q r H9 ((s7.trans t9).trans t10) hr
end
end My
end
section
-- text: PQ
namespace My
open PySem L2 Dg
noncomputable def hor(p m t y:Nat):List Nat->List Nat
 | []=>[]
 |_::r=>val p m t y r::hor p m t y r
theorem yeo(p m t y:Nat):∀(xs:List Nat) (i:Nat),(hor p m t y xs).getD i 0=val p m t y (xs.drop (i+1))
 | [],i=>by simp[hor,val]
 |a::r,0=>rfl
 |a::r,i+1=>yeo p m t y r i
section
variable {p m t:Nat} (G:Good p m t)
include G
theorem yg5(y:Nat):∀(xs:List Nat),∀x∈hor p m t y xs,x<p^m
 | [],x,h=>nomatch h
 |a::r,x,h=>by
  rcases xA9.mp h with h|h
  ·rw[h];exact zb1 G.hp G.hm _ _
  ·exact yg5 y r x h
theorem zdR{x y:Nat}(hx:x<p^m)(hy:y<p^m)(h:sub p m x y=0):x=y:=by
 have:=zca G.hp G.hm (y:=y) hx;rw[h,zero_add G.hp G.hm hy]at this;exact this.symm
theorem zft{y z:Nat}(hz:z<p^m):∀(xs:List Nat),(∀x∈xs,x<p^m)->val p m t z xs=add p m (mul p m t (sub p m z y) (val p m t z (hor p m t y xs))) (val p m t y xs)
 | [],_=>by
  show 0=add p m (mul p m t (sub p m z y) 0) 0;rw[mul_zero G.hp G.hm,add_zero G.hp G.hm (yal G.hp G.hm)]
 |a::r,h=>by
  have hp:=G.hp;have hm:=G.hm;have ih:=zft hz r (λx hx=>h x (xA7 _ hx)) (y:=y);show add p m (mul p m t (val p m t z r) z) a=add p m (mul p m t (sub p m z y) (add p m (mul p m t (val p m t z (hor p m t y r)) z) (val p m t y r))) (add p m (mul p m t (val p m t y r) y) a);have e1:mul p m t (val p m t y r) z=add p m (mul p m t (sub p m z y) (val p m t y r)) (mul p m t (val p m t y r) y):=by
   rw[mul_comm hp hm (sub p m z y),<-mul_add hp hm,zca hp hm hz]
  rw[<-add_assoc hp hm];refine congrArg (add p m · a) ?_;rw[ih,add_mul hp hm,e1,mul_add hp hm,add_assoc hp hm,mul_assoc hp hm]
theorem ydS:∀(pts:List Nat) (xs:List Nat),pts.Nodup->(∀y∈pts,y<p^m)->(∀x∈xs,x<p^m)->(∀i,pts.length<=i->xs.getD i 0=0)->(∀y∈pts,val p m t y xs=0)->∀i,xs.getD i 0=0
 | [],xs,_,_,_,h,_=>λi=>h i (xB7 _)
 |y::pts,xs,hn,hy,hx,h,hv=>by
  have hp:=G.hp;have hm:=G.hm;have vz:∀(k:Nat),(∀i,k<=i->xs.getD i 0=0)->val p m t y (xs.drop k)=0:=λk hk=>by
   have e:xs.drop k=List.replicate (xs.drop k).length 0:=by
    refine List.eq_replicate_iff.mpr ⟨rfl,λb hb=>?_⟩;obtain⟨i,hi,rfl⟩:=List.mem_iff_getElem.mp hb;rw[List.getElem_drop];have:=hk (k+i) (by lia);rw[List.length_drop]at hi;rw[xAf,xA5 (by lia)]at this;exact this
   rw[e];generalize (xs.drop k).length=n
   induction n with
   |zero=>rfl
   |succ n ih=>
    show add p m (mul p m t (val p m t y (List.replicate n 0)) y) 0=0;rw[ih,zero_mul hp hm,add_zero hp hm (yal hp hm)]
  have hes:∀i,(hor p m t y xs).getD i 0=0:=by
   refine ydS pts (hor p m t y xs) (xBe.mp hn).2 (λz hz=>hy z (xA7 _ hz)) (yg5 G y xs) (λi hi=>?_) (λz hz=>?_)
   ·rw[yeo];exact vz (i+1) λj hj=>h j (by simp;lia)
   ·have e:=zft G (y:=y) (hy z (xA7 _ hz)) xs hx;rw[hv z (xA7 _ hz),hv y xAb,add_zero hp hm (zaA hp hm _ _)]at e;rcases xAZ (val p m t z (hor p m t y xs)) with c|c
    ·exact c
    ·have hne:0<sub p m z y:=by
      rcases xAZ (sub p m z y) with d|d
      ·have:=zdR G (hy z (xA7 _ hz)) (hy y xAb) d;exact absurd (this ▸ hz) (xBe.mp hn).1
      ·exact d
     have:=G.noz hne (zbS hp hm _ _) c (zb1 hp hm _ _);lia
  have hd:∀i,val p m t y (xs.drop i)=0
   |0=>by rw[List.drop_zero];exact hv y xAb
   |i+1=>by rw[<-yeo];exact hes i
  intro i;by_cases c:i<xs.length
  ·have e:=hd i;rw[List.drop_eq_getElem_cons c]at e;change add p m (mul p m t (val p m t y (xs.drop (i+1))) y) xs[i]=0 at e;rw[hd (i+1),zero_mul hp hm,zero_add hp hm (hx _ (xBp c))]at e;rw[xAf,xA5 c];exact e
  ·exact yax (by lia)
theorem yfw{pts u v:List Nat}(hn:pts.Nodup)(hy:∀y∈pts,y<p^m)(hl:u.length=v.length)(hu:∀x∈u,x<p^m)(hv:∀x∈v,x<p^m)(hd:u.drop pts.length=v.drop pts.length)(h:∀y∈pts,val p m t y u=val p m t y v):u=v:=by
 have hp:=G.hp;have hm:=G.hm;have lp:(yaB p m t (p-1) v).length=v.length:=by simp[yaB]
 have gp:∀i,(yaB p m t (p-1) v).getD i 0=mul p m t (p-1) (v.getD i 0):=λi=>by
  by_cases c:i<v.length
  ·exact rget c
  ·rw[yax (xs:=v) (by lia),yax (by rw[lp];lia),mul_zero hp hm]
 have gd:∀i,i<u.length->(addL p m u (yaB p m t (p-1) v)).getD i 0=sub p m (u.getD i 0) (v.getD i 0):=λi hi=>by
  have:(addL p m u (yaB p m t (p-1) v)).getD i 0=add p m (u.getD i 0) ((yaB p m t (p-1) v).getD i 0):=rget (by rw[lp,hl,Nat.min_self];lia);rw[this,gp,zdX hp hm (zbI G hu i) (zbI G hv i)]
 have la:=ycr (p:=p) (m:=m) (n:=u.length) (ys:=yaB p m t (p-1) v) rfl (by rw[lp,hl]);have z:=ydS G pts (addL p m u (yaB p m t (p-1) v)) hn hy (yes G _ _) (λi hi=>by
  by_cases c:i<u.length
  ·rw[gd i c];have e:u.getD i 0=v.getD i 0:=by
    have h1:=congrArg (λl=>l.getD (i-pts.length) 0) hd;rw[xAf,List.getElem?_drop,xAf,List.getElem?_drop,show pts.length+(i-pts.length)=i by lia]at h1;rw[xAf,xAf];exact h1
   rw[e];exact zb7 G (zbI G hv i)
  ·exact yax (by rw[la];lia)) (λy hy'=>by
  rw[zeT G (hy y hy') rfl (by rw[lp,hl]) hu (zb3 G _ _),ydO G (hy y hy') hv,h y hy',zdX hp hm (zb1 hp hm _ _) (zb1 hp hm _ _)];exact zb7 G (zb1 hp hm _ _))
 refine xAP hl λi h1 h2=>?_
 have e:=z i;rw[gd i h1]at e;have:=zdR G (zbI G hu i) (zbI G hv i) e;rw[xAf,xA5 h1,xAf,xA5 h2]at this;exact this
theorem zes(y:Nat)(xs ys:List Nat)(hx:∀x∈xs,x<p^m)(hy:y<p^m):val p m t y (xs++ys)=add p m (mul p m t (val p m t y ys) (pw p m t y xs.length)) (val p m t y xs):=by
 have hp:=G.hp;have hm:=G.hm
 induction xs with
 |nil=>
  show val p m t y ys=add p m (mul p m t (val p m t y ys) 1) 0;rw[mul_one hp hm (zb1 hp hm _ _),add_zero hp hm (zb1 hp hm _ _)]
 |cons a r ih=>
  show add p m (mul p m t (val p m t y (r++ys)) y) a=add p m (mul p m t (val p m t y ys) (pw p m t y (r.length+1))) (add p m (mul p m t (val p m t y r) y) a);rw[ih (λx h=>hx x (xA7 _ h)),add_mul hp hm,<-add_assoc hp hm,mul_assoc hp hm,ybo hp hm,ybR hp hm hy]
theorem zdf(y:Nat):∀l:List Nat,(∀x∈l,x<p^m)->val p m t y (trim l)=val p m t y l
 | [],_=>rfl
 |x::xs,h=>by
  have hp:=G.hp;have hm:=G.hm;have ih:=zdf y xs λz hz=>h z (xA7 _ hz)
  cases e:trim xs with
  |nil=>
   have e2:trim (x::xs)=if x=0 then [] else [x]:=by show(match trim xs with | []=>_|r=>_)=_;rw[e]
   rw[e]at ih;have h0:val p m t y xs=0:=ih.symm;rw[e2];show _=add p m (mul p m t (val p m t y xs) y) x;rw[h0,zero_mul hp hm,zero_add hp hm (h x xAb)];by_cases c:x=0
   ·rw[if_pos c,c];rfl
   ·rw[if_neg c];show add p m (mul p m t 0 y) x=x;rw[zero_mul hp hm,zero_add hp hm (h x xAb)]
  |cons z r=>
   have e2:trim (x::xs)=x::z::r:=by show(match trim xs with | []=>_|r=>_)=_;rw[e]
   rw[e]at ih;rw[e2];show add p m (mul p m t (val p m t y (z::r)) y) x=add p m (mul p m t (val p m t y xs) y) x;rw[ih]
theorem ycB(y:Nat):∀n,val p m t y (List.replicate n 0)=0
 |0=>rfl
 |n+1=>by
  show add p m (mul p m t (val p m t y (List.replicate n 0)) y) 0=0;rw[ycB y n,zero_mul G.hp G.hm,add_zero G.hp G.hm (yal G.hp G.hm)]
theorem yhw{y:Nat}(hy:y<p^m)(xs:List Nat)(n:Nat)(hx:∀x∈xs,x<p^m):val p m t y (wid xs n)=val p m t y xs:=by
 unfold wid;rw[zes G y _ _ hx hy,ycB G,zero_mul G.hp G.hm,zero_add G.hp G.hm (zb1 G.hp G.hm _ _)]
theorem zig(a b c d:Nat):add p m (add p m a b) (add p m c d)=add p m (add p m a c) (add p m b d):=by
 have hp:=G.hp;have hm:=G.hm;rw[add_assoc hp hm,<-add_assoc hp hm b,add_comm hp hm b c,add_assoc hp hm c,<-add_assoc hp hm]
theorem zhA{y:Nat}(hy:y<p^m)(xs:List Nat)(hx:∀x∈xs,x<p^m):add p m (val p m t y (xs.map (sub p m 0))) (val p m t y xs)=0:=by
 have hp:=G.hp;have hm:=G.hm
 induction xs with
 |nil=>exact add_zero hp hm (yal hp hm)
 |cons a r ih=>
  have ih:=ih λx h=>hx x (xA7 _ h)
  show add p m (add p m (mul p m t (val p m t y (r.map (sub p m 0))) y) (sub p m 0 a)) (add p m (mul p m t (val p m t y r) y) a)=0;rw[zig G,<-add_mul hp hm,ih,zero_mul hp hm,zca hp hm (yal hp hm),add_zero hp hm (yal hp hm)]
theorem ydL{f:Nat->Nat}{k:Nat}(h:∀i,i<k->f i=0):∀d,sumF p m (k+d) f=sumF p m d λi=>f (k+i)
 |0=>by
  have e:=yay G.hp G.hm (f:=f) (g:=λ_=>0) k λi hi=>h i hi
  rw[Nat.add_zero,e];have:=zbv G.hp G.hm (λ_=>0) 0 k (λ_ _ _=>rfl);rw[Nat.zero_add]at this;exact this
 |d+1=>by
  show add p m (sumF p m (k+d) f) (f (k+d))=add p m (sumF p m d λi=>f (k+i)) (f (k+d));rw[ydL h d]
theorem zhy{y a c:Nat}{ds rest:List Nat}(hy:y<p^m)(hds:∀x∈ds,x<p^m)(hr:∀x∈rest,x<p^m)(hl:a+ds.length<=rest.length)(h0:val p m t y ds=0):val p m t y (dvJ p m t ds rest a c ds.length)=val p m t y rest:=by
 have hp:=G.hp;have hm:=G.hm;have hw:sumF p m rest.length (λi=>if a<=i/\i<a+ds.length then mul p m t (mul p m t c (ds.getD (i-a) 0)) (pw p m t y i) else 0)=0:=by
  have e:=zbv hp hm (λi=>if a<=i/\i<a+ds.length then mul p m t (mul p m t c (ds.getD (i-a) 0)) (pw p m t y i) else 0) (a+ds.length) (rest.length-(a+ds.length)) (λi h1 h2=>if_neg (by lia));rw[show a+ds.length+(rest.length-(a+ds.length))=rest.length by lia]at e;rw[e,ydL G (λi hi=>if_neg (by lia))];have e2:sumF p m ds.length (λi=>if a<=a+i/\a+i<a+ds.length then mul p m t (mul p m t c (ds.getD (a+i-a) 0)) (pw p m t y (a+i)) else 0)=sumF p m ds.length λi=>mul p m t (mul p m t (ds.getD i 0) (pw p m t y i)) (mul p m t c (pw p m t y a)):=by
   refine yay hp hm _ λi hi=>?_
   rw[if_pos (by lia),Nat.add_sub_cancel_left,ybo hp hm,mul_comm hp hm c,mul_assoc hp hm,mul_assoc hp hm];refine congrArg (mul p m t (ds.getD i 0)) ?_;rw[<-mul_assoc hp hm,mul_comm hp hm]
  rw[e2,ycb hp hm,<-ya7 hp hm hy ds hds,h0,zero_mul hp hm]
 rw[ya7 hp hm hy _ (zgX G hr),ya7 hp hm hy _ hr,ycT];have e3:=zdi hp hm rest.length (λi=>mul p m t ((dvJ p m t ds rest a c ds.length).getD i 0) (pw p m t y i)) (λi=>if a<=i/\i<a+ds.length then mul p m t (mul p m t c (ds.getD (i-a) 0)) (pw p m t y i) else 0);rw[hw,add_zero hp hm (yeS hp hm _ _)]at e3;rw[<-e3];refine yay hp hm _ λi hi=>?_
 rw[zeF hi];by_cases c1:a<=i/\i<a+ds.length
 ·rw[if_pos c1,if_pos c1,<-add_mul hp hm,zca hp hm (zbI G hr i)]
 ·rw[if_neg c1,if_neg c1,add_zero hp hm (zaA hp hm _ _)]
theorem zfV{y:Nat}{ds one:List Nat}{N:Nat}(hN:N=one.length+1-ds.length)(hy:y<p^m)(hds:∀x∈ds,x<p^m)(ho:∀x∈one,x<p^m)(h0:val p m t y ds=0)(hd:0<ds.length):∀i,i<=N->val p m t y (dvI p m t ds one N i)=val p m t y one
 |0,_=>rfl
 |i+1,hi=>by
  show val p m t y (dvJ p m t ds (dvI p m t ds one N i) (N-1-i) (dvF p m t ds (dvI p m t ds one N i) (N-1-i)) ds.length)=_;rw[zhy G hy hds (ycl G ho i) (by rw[zcg];lia) h0];exact zfV hN hy hds ho h0 hd i (by lia)
theorem ydA{root k:Nat}{marks gs:List Nat}(hg:∀x∈gs,x<p^m)(hk:k∈marks):val p m t (pw p m t root k) (mdL p m t root marks gs)=0:=by
 have hp:=G.hp;have hm:=G.hm;have hy:=zaS hp hm (t:=t) root k;have hz:=ycs G (root:=root) hk;have hR:=zeW (root:=root) (marks:=marks) G hg;have e1:val p m t (pw p m t root k) (trim (dvI p m t (mkL p m t root marks) (mdR p m t root marks gs) (mdN p m t root marks gs) (mdN p m t root marks gs)))=val p m t (pw p m t root k) (List.replicate marks.length 0++gs):=by
  rw[zdf G _ _ (ycl G hR _),zfV G (N:=mdN p m t root marks gs) rfl hy (zbE G marks) hR hz (by rw[zaV];lia) _ (xA4 _)];unfold mdR;refine zdf G _ _ λx hx=>?_
  rcases xAE.mp hx with c|c
  ·rw[xBa c];exact yal hp hm
  ·exact hg x c
 have hlt:∀x∈trim (dvI p m t (mkL p m t root marks) (mdR p m t root marks gs) (mdN p m t root marks gs) (mdN p m t root marks gs)),x<p^m:=λx hx=>ycl G hR _ x (yct _ _ hx)
 have hwl:=ydo (zcr (root:=root) (marks:=marks) G hg);unfold mdL;rw[zes G _ _ _ (λx hx=>by obtain⟨z,_,rfl⟩:=xAg.mp hx;exact zbS hp hm _ _) hy,xA0,hwl];have e2:=zhA G hy (wid (trim (dvI p m t (mkL p m t root marks) (mdR p m t root marks gs) (mdN p m t root marks gs) (mdN p m t root marks gs))) marks.length) (ygU (yal hp hm) hlt);rw[yhw G hy _ _ hlt,e1,zes G _ _ _ (λx hx=>by rw[xBa hx];exact yal hp hm) hy,ycB G,xAq,add_zero hp hm (zaA hp hm _ _),add_comm hp hm]at e2;exact e2
theorem yeQ{y few:Nat}(hy:y<p^m):∀xs:List Nat,(∀x∈xs,x<p^m)->val p m t (pw p m t y (p^few)) (xs.map λx=>pw p m t x (p^few))=pw p m t (val p m t y xs) (p^few)
 | [],_=>by
  show 0=pw p m t 0 (p^few);have:0<p^few:=xB1 (by have:=G.hp;lia);rw[show p^few=(p^few-1)+1 by lia,zbZ G.hp G.hm]
 |a::r,h=>by
  have hp:=G.hp;have hm:=G.hm;show add p m (mul p m t (val p m t (pw p m t y (p^few)) (r.map λx=>pw p m t x (p^few))) (pw p m t y (p^few))) (pw p m t a (p^few))=pw p m t (add p m (mul p m t (val p m t y r) y) a) (p^few);rw[yeQ hy r (λx hx=>h x (xA7 _ hx)),<-zdc hp hm,G.frobN few (zaA hp hm _ _) (h a xAb)]
theorem zgb{few root n k:Nat}{marks:List Nat}(W:Whl p m t few root n marks)(hk:k∈marks):∃k'∈marks,pw p m t (pw p m t root k') (p^few)=pw p m t root k:=by
 have hp:=G.hp;have hm:=G.hm;have hn:=W.ord.pos;have he:=W.ord.round G W.r0 W.rq W.fewm W.few1;have he1:1<=m/few:=Nat.div_pos (Nat.le_of_dvd (by lia) (xBj W.fewm)) W.few1;have it:∀j,k*(p^few)^j%n∈marks:=λj=>by
  induction j with
  |zero=>rw[Nat.pow_zero,Nat.mul_one,Nat.mod_eq_of_lt (W.lt k hk)];exact hk
  |succ j ih=>
   have:=W.closed _ ih;rw[Nat.mod_mul_mod,Nat.mul_assoc,<-xAD]at this;exact this
 have pm:∀a,pw p m t root (a%n)=pw p m t root a:=λa=>by
  conv=>rhs;rw[<-Nat.div_add_mod a n,ybo hp hm,za7 hp hm,W.ord.one,zcU hp hm,one_mul hp hm (zaS hp hm _ _)]
 refine⟨_,it (m/few-1),?_⟩;rw[pm,<-za7 hp hm,Nat.mul_assoc,<-xAD,show(m/few-1).succ=m/few by lia,<-pm,Nat.mul_mod,he,<-Nat.mul_mod,Nat.mul_one,pm]
theorem yh9{root n:Nat}{marks:List Nat}(r0:0<root)(hr:root<p^m)(o:Ord p m t root n)(hasc:marks.Pairwise (· < ·))(hl:∀x∈marks,x<n):(marks.map λk=>pw p m t root k).Nodup:=by
 rw[List.Nodup,List.pairwise_map];refine List.Pairwise.imp_of_mem (λ{a b} ha hb h e=>?_) hasc;have:=yeG G r0 hr o (hl a ha) (hl b hb) e;lia
theorem yd5{few root n:Nat}{marks u v:List Nat}(W:Whl p m t few root n marks)(hl:u.length=v.length)(hu:∀x∈u,x<p^m)(hv:∀x∈v,x<p^m)(hd:u.drop marks.length=v.drop marks.length)(zu:∀k∈marks,val p m t (pw p m t root k) u=0)(zv:∀k∈marks,val p m t (pw p m t root k) v=0):u=v:=by
 refine yfw G (pts:=marks.map λk=>pw p m t root k) (yh9 G W.r0 W.rq W.ord W.asc W.lt) (λy hy=>?_) hl hu hv (by rw[xA0];exact hd) (λy hy=>?_)
 ·obtain⟨k,_,rfl⟩:=xAg.mp hy;exact zaS G.hp G.hm _ _
 ·obtain⟨k,hk,rfl⟩:=xAg.mp hy;rw[zu k hk,zv k hk]
theorem zgh{few root n:Nat}{marks u:List Nat}(W:Whl p m t few root n marks)(hu:∀x∈u,x<p^m)(zu:∀k∈marks,val p m t (pw p m t root k) u=0)(hd:∀x∈u.drop marks.length,pw p m t x (p^few)=x):∀x∈u,pw p m t x (p^few)=x:=by
 have hp:=G.hp;have hm:=G.hm;have e:(u.map λx=>pw p m t x (p^few))=u:=by
  refine yd5 G W (by rw[xA0]) (λx hx=>by obtain⟨y,_,rfl⟩:=xAg.mp hx;exact zaS hp hm _ _) hu ?_ (λk hk=>?_) zu
  ·rw[<-List.map_drop]
   conv=>rhs;rw[<-List.map_id (u.drop marks.length)]
   exact xAy λx hx=>hd x hx
  ·obtain⟨k',hk',e'⟩:=zgb G W hk;rw[<-e',yeQ G (zaS hp hm _ _) u hu,zu k' hk'];have:0<p^few:=xB1 (by lia);rw[show p^few=(p^few-1)+1 by lia,zbZ hp hm]
 intro x hx;obtain⟨i,hi,rfl⟩:=List.mem_iff_getElem.mp hx;have:=congrArg (λl=>l[i]?) e;rw[xA8,xA5 hi]at this;exact xAv this
omit G in
theorem ydB{p m t root:Nat}{marks gs:List Nat}(G:Good p m t)(hg:∀x∈gs,x<p^m):(mdL p m t root marks gs).drop marks.length=gs:=by
 have hwl:=ydo (zcr (root:=root) (marks:=marks) G hg);unfold mdL;rw[List.drop_append_of_le_length (by rw[xA0,hwl];exact xA4 _)];rw[List.drop_eq_nil_of_le (by rw[xA0,hwl];exact xA4 _),List.nil_append]
theorem zdm{few root n:Nat}{marks u:List Nat}(W:Whl p m t few root n marks)(hl:u.length=n)(hml:marks.length<=n)(hu:∀x∈u,x<p^m)(zu:∀k∈marks,val p m t (pw p m t root k) u=0):mdL p m t root marks (u.drop marks.length)=u:=by
 have hg:∀x∈u.drop marks.length,x<p^m:=λx hx=>hu x (List.mem_of_mem_drop hx)
 refine yd5 G W (by rw[ych G hg,List.length_drop];lia) (zec G hg) hu (ydB G hg) (λk hk=>ydA G hg hk) zu
end
end My
end
section
-- text: WE
namespace My
open PySem L2 Dg
noncomputable def sums(p m:Nat)(xs ys:List Nat):List Nat:=(List.range (min xs.length ys.length)).map λi=>add p m (xs.getD i 0) (ys.getD i 0)
section
variable {p m t:Nat} (G:Good p m t)
include G
theorem ybk{x:Nat}(hx:x<p^m):x∈lets p m t few↔pw p m t x (p^few)=x:=by
 unfold lets;rw[List.mem_filter,xAw,decide_eq_true_iff];exact⟨λh=>h.2,λh=>⟨hx,h⟩⟩
theorem zer{few:Nat}(hf:m%few=0)(hf1:1<=few):(lets p m t few).length=p^few:=by
 refine Nat.le_antisymm (zf3 G hf hf1) ?_;have hp:=G.hp;have hm:=G.hm;obtain⟨b,Pb⟩:=G.prim;have hq2:2<=p^few:=xAB hp (Nat.le_self_pow (by lia) p);obtain⟨kk,hkk⟩:p^few-1 ∣ p^m-1:=by
  have:=ycA (p^few) (m/few);rw[<-Nat.pow_mul,Nat.mul_div_cancel' (xBj hf)]at this;exact this
 have h1:=zax hp hm;have hk0:0<kk:=by
  rcases xAZ kk with h|h
  ·rw[h,Nat.mul_zero]at hkk;lia
  ·exact h
 have hlt:∀j,j<p^few-1->kk*j<p^m-1:=λj hj=>by
  rw[hkk,xBb (p^few-1)];exact Nat.mul_lt_mul_of_pos_left hj hk0
 have hnd:(0::(List.range (p^few-1)).map λj=>pw p m t b (kk*j)).Nodup:=by
  rw[xBe];refine⟨λh=>?_,za8 _ λi j hi hj e=>?_⟩
  ·obtain⟨j,_,e⟩:=xAg.mp h;have:=G.pw_pos Pb.pos Pb.lt (kk*j);lia
  ·have:=G.inj Pb _ _ (hlt i hi) (hlt j hj) e;exact Nat.eq_of_mul_eq_mul_left hk0 this
 have:=zdo hnd (l':=lets p m t few) λx hx=>by
  rcases xA9.mp hx with h|h
  ·rw[h,ybk G (by lia),show p^few=(p^few-1)+1 by lia,zbZ hp hm]
  ·obtain⟨j,hj,rfl⟩:=xAg.mp h;rw[ybk G (zaS hp hm _ _),<-za7 hp hm,<-G.pw_mod Pb.pos Pb.lt,show kk*j*p^few=kk*j+(p^m-1)*j from ?_,Nat.add_mul_mod_self_left,G.pw_mod Pb.pos Pb.lt];rw[hkk];obtain⟨q,hq⟩:∃q,p^few=q+1:=⟨p^few-1,by lia⟩
   rw[hq,Nat.add_sub_cancel,Nat.mul_add,Nat.mul_one,Nat.add_comm,Nat.mul_right_comm,xBb kk q]
 simp only[xAO,xA0,xAr]at this;lia
end
noncomputable def Rws(K:PySem.W.Frag)(H:Hp):List Addr->List (List Nat)->Prop
 | [],[]=>True
 |d::ds,r::rs=>SqT K H d (r.map Vn)/\Rws K H ds rs
 |_,_=>False
section
variable {K:PySem.W.Frag} {H H':Hp}
theorem Rws.same(s:Same H H'):∀ {ds:List Addr} {rs:List (List Nat)},Rws K H ds rs->Rws K H' ds rs
 | [],[],_=>trivial
 |_::_,_::_,h=>⟨Same.tup s h.1,Rws.same s h.2⟩
 | [],_::_,h=>h.elim
 |_::_,[],h=>h.elim
theorem Rws.len:∀ {ds:List Addr} {rs:List (List Nat)},Rws K H ds rs->ds.length=rs.length
 | [],[],_=>rfl
 |_::_,_::_,h=>by rw[xAO,xAO,Rws.len h.2]
 | [],_::_,h=>h.elim
 |_::_,[],h=>h.elim
theorem Rws.app:∀ {ds es:List Addr} {rs qs:List (List Nat)},Rws K H ds rs->Rws K H es qs->Rws K H (ds++es) (rs++qs)
 | [],_,[],_,_,h=>h
 |_::_,_,_::_,_,h,g=>⟨h.1,Rws.app h.2 g⟩
 | [],_,_::_,_,h,_=>h.elim
 |_::_,_,[],_,h,_=>h.elim
theorem Rws.get:∀ {ds:List Addr} {rs:List (List Nat)} {i:Nat},Rws K H ds rs->i<rs.length->∃d,ds[i]?=some d/\SqT K H d ((rs.getD i []).map Vn)
 | [],[],_,_,hi=>absurd hi (Nat.not_lt_zero _)
 |d::_,_::_,0,h,_=>⟨d,rfl,h.1⟩
 |_::_,_::_,i+1,h,hi=>Rws.get (i:=i) h.2 (Nat.lt_of_succ_lt_succ hi)
 | [],_::_,_,h,_=>h.elim
 |_::_,[],_,h,_=>h.elim
theorem Rws.mem:∀ {ds:List Addr} {rs:List (List Nat)} {d:Addr},Rws K H ds rs->d∈ds->∃r∈rs,SqT K H d (r.map Vn)
 | [],[],_,_,hd=>nomatch hd
 |e::ds,r::rs,d,h,hd=>by
  rcases xA9.mp hd with rfl|hd
  ·exact⟨r,xAb ..,h.1⟩
  ·obtain⟨q,hq,e⟩:=Rws.mem h.2 hd;exact⟨q,xA7 _ hq,e⟩
 | [],_::_,_,h,_=>h.elim
 |_::_,[],_,h,_=>h.elim
theorem Rws.perm{es ds:List Addr}(p:es.Perm ds):∀ {rs:List (List Nat)},Rws K H ds rs->∃qs:List (List Nat),qs.Perm rs/\Rws K H es qs:=by
 induction p with
 |nil=>exactλh=>⟨_,.refl _,h⟩
 |cons x _ ih=>
  intro rs h;cases rs with
  |nil=>exact h.elim
  |cons r rs=>
   obtain⟨qs,h1,h2⟩:=ih h.2;exact⟨r::qs,h1.cons _,h.1,h2⟩
 |swap x y l=>
  intro rs h;rcases rs with _ |⟨r,_ |⟨u,rs⟩⟩
  ·exact h.elim
  ·exact h.2.elim
  ·exact⟨u::r::rs,.swap ..,h.2.1,h.1,h.2.2⟩
 |trans _ _ ih1 ih2=>
  intro rs h;obtain⟨qs,h1,h2⟩:=ih2 h;obtain⟨us,h3,h4⟩:=ih1 h2;exact⟨us,h3.trans h1,h4⟩
end
theorem za6{α:Type}{l:List α}{i:Nat}{d:α}(h:i<l.length):l.take (i+1)=l.take i++[l.getD i d]:=by
 rw[xBi h];simp[List.getD,h]
noncomputable def unG(fr k:Nat):List Nat:=List.replicate k 0++[1]++List.replicate (fr-k-1) 0
noncomputable def mulR(p m t root:Nat)(marks:List Nat)(few fr k:Nat):List (List Nat):=(lets p m t few).map λc=>yaB p m t c (mdL p m t root marks (unG fr k))
noncomputable def wdL(p m t root:Nat)(marks:List Nat)(few fr:Nat):Nat->List (List Nat)
 |0=>[mdL p m t root marks (List.replicate fr 0)]
 |k+1=>(wdL p m t root marks few fr k).flatMap λu=>(mulR p m t root marks few fr k).map (sums p m u)
theorem zcN(p m t root:Nat)(marks:List Nat)(few fr:Nat):∀k,(wdL p m t root marks few fr k).length=(lets p m t few).length^k
 |0=>rfl
 |k+1=>by
  show(List.flatMap _ _).length=_;rw[List.length_flatMap,show(List.map (λu=>((mulR p m t root marks few fr k).map (sums p m u)).length) (wdL p m t root marks few fr k))=(wdL p m t root marks few fr k).map λ_=>(lets p m t few).length from xAy λ_ _=>by rw[xA0];exact xA0 _];rw[List.map_const',List.sum_replicate_nat,zcN p m t root marks few fr k,xAD]
theorem zdz{fr k:Nat}(h:k<fr):(unG fr k).length=fr:=by
 unfold unG;rw[xAt,xAt,xAq,xAq,List.length_singleton];lia
theorem ygI(p m:Nat)(xs ys:List Nat):(sums p m xs ys).length=min xs.length ys.length:=by unfold sums;rw[xA0,xAr]
theorem ycK(p m t c:Nat)(xs:List Nat):(yaB p m t c xs).length=xs.length:=by unfold yaB;rw[xA0,xAr]
section
variable {p m t:Nat} (G:Good p m t)
include G
theorem zck{fr k:Nat}:∀x∈unG fr k,x<p^m:=λx hx=>by
 have:=zax G.hp G.hm;unfold unG at hx;simp only[xAE,List.mem_replicate,xAA]at hx;lia
theorem yhr{xs ys:List Nat}:∀x∈sums p m xs ys,x<p^m:=λx hx=>by
 obtain⟨i,_,rfl⟩:=xAg.mp hx;exact zbb G.hp G.hm _ _
end
section
variable {P:Program} {w:World} {K:PySem.W.Frag} {mg:Str->Option Value} {base:Heap} {f:Addr} {fd:FuncData} {Re By Nr Tm Nt Nl:Addr}
noncomputable def zc5(K:PySem.W.Frag):Sp:=λvs H Q _=>∃(a:Addr) (p m t few:Nat),vs=[.ref a,Vn few]/\Fld K H a p m t/\Good p m t/\few<=6/\∀r H',Same H H'->H r=none->H' r=some (.tup ((lets p m t few).map Vn))->Q (.ref r) H'
theorem zc6:yah ["field","few","q"] ["field","few"] (zae zb8):=⟨rfl,rfl,rfl,by decide +kernel,rfl,by decide +kernel,by decide +kernel⟩
theorem zfk(B:Bl mg)(xC1:Has P w K mg base 1 "number_power" ["base","many"] zam)(xC4:Has P w K mg base 5 "power" ["field","one","many"] (zdI K))(xBZ:Has P w K mg base 2 "many_things" ["field"] (ydn K))(F:Fun K "letters" "letters" zb8 f fd):FnOk P w K mg base CX0 6 f fd ["field","few"] (zc5 K):=by
 refine F.ok zc6 (λvs H Q E h=>?_) (λcdv A outer s H vs Q E hr h=>?_)
 ·obtain⟨a,p,m,t,few,rfl,_⟩:=h;rfl
 obtain⟨a,p,m,t,few,rfl,hF,G,hf,q⟩:=h;have hp:=G.hp;have hm:=G.hm;have hQ:=G.hq;have hp2:=p_le hp hm hQ;have hm6:=m_le hp hQ;refine⟨_,(@zab _ _ _ _ _ (@zag _ _ 2 _ _ _ _ zc6.nd rfl (Or.inr rfl) (@zad _ _ _ _ _ _ _ _ _ _ _ xC1 hr (by decide) rfl (@zaa _ _ _ _ _ (@zan _ _ _ _ _ _ _ zas (pv 0) yac (λ_ _=>rfl)) (@zaa _ _ _ _ _ (pv 1) zac ⋯) ⋯) (by decide) ⋯ ⋯) ⋯ (by trivial)) (@yad _ _ _ (@yaj _ _ _ _ (@zap _ _ _ _ _ _ _ _ _ yap rfl (B "tuple" (by decide)) zaq (@zaa _ _ _ _ _ (@yaF _ _ _ _ _ _ _ ["one"] ["field","q"] [0,2] _ _ _ _ (id (α:=CSc ["field","few","q"] (zae zb8) ["one"] ["field","q"] [0,2] _) ⟨by rfl,by decide +kernel,by decide +kernel,by decide +kernel,by decide +kernel,by rfl,by decide +kernel⟩) rfl (@yaK _ _ _ _ _ _ rfl (B "range" (by decide)) (@zaa _ _ _ _ _ (@zad _ _ _ _ _ _ _ _ _ _ _ xBZ hr (by decide) rfl (@zaa _ _ _ _ _ (pv 0) zac ⋯) (by decide) ⋯ ⋯) zac ⋯) ⋯) (λcl C fp s H=>(@yae _ _ 0 _ (by show List.Nodup (["one","field","q"]:List Str);decide +kernel) rfl (Or.inl rfl) (by trivial))) (λ_ _ _ _ _=>(@zbz _ _ _ (@zai _ _ _ _ _ _ _ _ ya9 (@zad _ _ _ _ _ _ _ _ _ _ _ xC4 hr (by decide) rfl (@zaa _ _ _ _ _ (pv 1) (@zaa _ _ _ _ _ (pv 0) (@zaa _ _ _ _ _ (pv 2) zac ⋯) ⋯) ⋯) (by decide) ⋯ ⋯) (pv 0) (yak _)))) (λ_ _ _ _ _=>(pv 0)) (by intro _;rfl)) zac ⋯) (by decide) (by decide) ⋯ ⋯)))),?_⟩;refine⟨_,rfl,a,_,_,_,rfl,rfl,hF,rfl,_,rfl,p,few,rfl,hp2,by lia,?_⟩;dsimp only[yau];refine⟨_,rfl,a,p,m,t,rfl,hF,hp2,by lia,?_⟩;refine⟨((p^m:Nat):Int),rfl,by lia,by lia,?_⟩;refine yav zbn (λk acc H'=>H'=H/\acc=(((List.range k).filter λx=>decide (pw p m t x (p^few)=x)).map Vn)) ⟨rfl,rfl⟩ (λ_ _ _ _ _=>trivial) ?_ ?_ ?_
 ·rintro k acc H' hk ⟨_,rfl⟩;have:=List.length_filter_le (λx=>decide (pw p m t x (p^few)=x)) (List.range k);rw[xAr]at this;rw[xA0];exact yao (by lia)
 ·rintro k acc x H' H'' hk ⟨rfl,rfl⟩ ⟨rfl,rfl⟩;have hk2:k<p^m:=by lia
  refine⟨_,rfl,_,rfl,_,rfl,a,p,m,t,k,((p^few:Nat):Int),?_,hF,G,hk2,by lia,?_⟩
  ·rw[show(0+(k:Int))=(k:Int) by lia];rfl
  rw[zcP G hk2];refine⟨_,rfl,rfl,_,rfl,?_⟩;have ed:decide (Vn (pw p m t k (p^few))=V.int (0+(k:Int)))=decide (pw p m t k (p^few)=k):=by
   rw[show(0+(k:Int))=(k:Int) by lia];exact decide_eq_decide.mpr ⟨λe=>Int.ofNat.inj (V.int.inj e),λe=>by rw[e]⟩
  rw[ed,xBd,List.filter_append];refine ite2 (λc=>?_) (λc=>?_)
  ·have c':pw p m t k (p^few)=k:=xAj c;refine⟨_,rfl,rfl,?_⟩;rw[xAe,show V.int (0+(k:Int))=Vn k from ydv (by lia)];simp[c']
  ·have c':¬ pw p m t k (p^few)=k:=λh=>c (xAG h)
   refine⟨rfl,?_⟩;simp[c']
 ·rintro acc H1 ⟨rfl,rfl⟩ D hD;rw[xAs];have s1:=yab hD (.lst ((lets p m t few).map Vn));refine⟨D,_,rfl,.inl ⟨SqL.of yaa,λr hr=>?_⟩⟩;exact q r _ (s1.trans (yab hr _)) (s1.free hr) yaa
noncomputable def ycH(K:PySem.W.Frag):Sp:=λvs H Q _=>∃(fa a b:Addr) (p m t:Nat) (xs ys:List Nat),vs=[.ref fa,.ref a,.ref b]/\Fld K H fa p m t/\Good p m t/\SqT K H a (xs.map Vn)/\SqT K H b (ys.map Vn)/\xs.length<=100/\(∀x∈xs,x<p^m)/\(∀y∈ys,y<p^m)/\
 ∀r H',Same H H'->H r=none->H' r=some (.tup ((sums p m xs ys).map Vn))->Q (.ref r) H'
theorem zeg:yah ["field","one","other"] ["field","one","other"] (zae zbM):=⟨rfl,rfl,rfl,by decide +kernel,rfl,by decide +kernel,by decide +kernel⟩
theorem yel(B:Bl mg)(xC3:Has P w K mg base 1 "plus" ["field","one","other"] (zcb K))(F:Fun K "word_sum" "word_sum" zbM f fd):FnOk P w K mg base CX0 2 f fd ["field","one","other"] (ycH K):=by
 refine F.ok zeg (λvs H Q E h=>?_) (λcdv A outer s H vs Q E hr h=>?_)
 ·obtain⟨fa,a,b,p,m,t,xs,ys,rfl,_⟩:=h;rfl
 obtain⟨fa,a,b,p,m,t,xs,ys,rfl,hF,G,ha,hb,hl,hx,hy,q⟩:=h;have hp2:=p_le G.hp G.hm G.hq;refine⟨_,(@yad _ _ _ (@yaj _ _ _ _ (@zap _ _ _ _ _ _ _ _ _ yap rfl (B "tuple" (by decide)) zaq (@zaa _ _ _ _ _ (@yaF _ _ _ _ _ _ _ ["a","b"] ["field"] [0] _ _ _ _ (id (α:=CSc ["field","one","other"] (zae zbM) ["a","b"] ["field"] [0] _) ⟨by rfl,by decide +kernel,by decide +kernel,by decide +kernel,by decide +kernel,by rfl,by decide +kernel⟩) rfl (@zg0 _ _ _ _ _ _ _ _ _ rfl (B "zip" (by decide)) (@zaa _ _ _ _ _ (pv 1) (@zaa _ _ _ _ _ (pv 2) zac ⋯) ⋯) ⋯ ⋯) (λcl C fp s H=>(@zep _ _ _ _ 2 _ K rfl rfl (@zah _ _ _ _ _ (@yae _ _ 0 _ (by show List.Nodup (["a","b","field"]:List Str);decide +kernel) rfl (Or.inl rfl) (by trivial)) (@zah _ _ _ _ _ (@yae _ _ 1 _ (by show List.Nodup (["a","b","field"]:List Str);decide +kernel) rfl (Or.inl rfl) (by trivial)) zaE ⋯) ⋯) ⋯ ⋯)) (λ_ _ _ _ _=>zaM) (λ_ _ _ _ _=>(@zad _ _ _ _ _ _ _ _ _ _ _ xC3 hr (by decide) rfl (@zaa _ _ _ _ _ (pv 2) (@zaa _ _ _ _ _ (pv 0) (@zaa _ _ _ _ _ (pv 1) zac ⋯) ⋯) ⋯) (by decide) ⋯ ⋯)) (by intro _;rfl)) zac ⋯) (by decide) (by decide) ⋯ ⋯))),?_⟩;refine⟨_,rfl,_,rfl,true,true,a,b,rfl,⟨_,ha⟩,⟨_,hb⟩,?_⟩;refine yav (zeP (xs:=xs.map Vn) (ys:=ys.map Vn)) (λk acc H'=>Same H H'/\acc=((List.range k).map λi=>add p m (xs.getD i 0) (ys.getD i 0)).map Vn) ⟨Same.refl _,rfl⟩ (λi acc H' _ h=>⟨Same.tup h.1 ha,Same.tup h.1 hb⟩) ?_ ?_ ?_
 ·rintro k acc H' hk ⟨_,rfl⟩;rw[xA0,xA0]at hk;rw[xA0,xA0,xAr];exact yao (by lia)
 ·rintro k acc z H1 H2 hk ⟨s1,rfl⟩ ⟨T,u,v,rfl,eu,ev,hT,rfl⟩;rw[xA0,xA0]at hk;rw[zav (by lia)]at eu ev;cases eu;cases ev;refine⟨T,_,rfl,SqT.of yaa,rfl,_,_,rfl,_,_,rfl,rfl,?_⟩;have s2:=s1.trans (yab hT (.tup [Vn (xs.getD k 0),Vn (ys.getD k 0)]));refine⟨_,rfl,_,rfl,_,rfl,fa,p,m,t,xs.getD k 0,ys.getD k 0,rfl,Same.tup s2 hF,G.hp,hp2,λr h1=>?_⟩;cases yeW G.hp G.hm (yaO hx (by lia)) (yaO hy (by lia)) h1;refine⟨s2,?_⟩;rw[xBd,xAe,xAe];rfl
 ·rw[xA0,xA0];rintro acc H1 ⟨s1,rfl⟩ D hD;refine⟨D,_,rfl,.inl ⟨SqL.of yaa,λr hr=>?_⟩⟩;have s2:=s1.trans (yab hD (.lst ((sums p m xs ys).map Vn)));exact q r _ (s2.trans (yab hr _)) (s2.free hr) yaa
noncomputable def yeB(K:PySem.W.Frag):Sp:=λvs H Q _=>∃(wh fa mk:Addr) (p m t few root n fr:Nat) (marks:List Nat),vs=[.ref wh]/\WhAt H wh fa mk few root marks/\Fld K H fa p m t/\Good p m t/\0<root/\root<p^m/\Ord p m t root n/\fr+marks.length=n/\Q (Vn fr) H
theorem yhz:yah ["wheel"] ["wheel"] (zae yfy):=⟨rfl,rfl,rfl,by decide +kernel,rfl,by decide +kernel,by decide +kernel⟩
theorem yhf(B:Bl mg)(xBU:Has P w K mg base 5 "length" ["wheel"] (zcA K))(F:Fun K "free" "free" yfy f fd):FnOk P w K mg base CX0 6 f fd ["wheel"] (yeB K):=by
 refine F.ok yhz (λvs H Q E h=>?_) (λcdv A outer s H vs Q E hr h=>?_)
 ·obtain⟨wh,fa,mk,p,m,t,few,root,n,fr,marks,rfl,_⟩:=h;rfl
 obtain⟨wh,fa,mk,p,m,t,few,root,n,fr,marks,rfl,hW,hF,G,h0,hq,o,hfr,q⟩:=h;refine⟨_,(@yad _ _ _ (@yaj _ _ _ _ (@zaf _ _ _ _ _ _ _ _ yaG (@zad _ _ _ _ _ _ _ _ _ _ _ xBU hr (by decide) rfl (@zaa _ _ _ _ _ (pv 0) zac ⋯) (by decide) ⋯ ⋯) (@zal _ _ _ _ _ _ _ _ _ zaj rfl (B "len" (by decide)) xAT (@zaa _ _ _ _ _ (@zan _ _ _ _ _ _ _ zas (pv 0) yac (λ_ _=>rfl)) zac ⋯) (by decide) (by decide) ⋯ ⋯)))),?_⟩;refine⟨_,rfl,wh,fa,p,m,t,few,root,_,rfl,SqT.of hW.w,hF,G,h0,hq,λn' o' _=>?_⟩;cases o'.uniq o;refine⟨_,rfl,wh,_,_,.ref mk,rfl,rfl,SqT.of hW.w,rfl,mk,_,rfl,.inr (SqT.of hW.k),_,_,rfl,rfl,?_⟩;show Q (V.int ((n:Int)-(((marks.map Vn).length:Nat):Int))) H;rw[xA0,show(n:Int)-(marks.length:Int)=(fr:Int) by lia];exact q
noncomputable def yeV(K:PySem.W.Frag):Sp:=λvs H Q _=>∃(wh fa mk:Addr) (p m t few root n fr:Nat) (marks:List Nat),vs=[.ref wh]/\WhAt H wh fa mk few root marks/\Fld K H fa p m t/\Good p m t/\0<root/\root<p^m/\Ord p m t root n/\fr+marks.length=n/\few<=6/\p^few<=64/\n<=64/\Q (Vn ((p^few)^fr)) H
theorem ycR:yah ["wheel","q"] ["wheel"] (zae zch):=⟨rfl,rfl,rfl,by decide +kernel,rfl,by decide +kernel,by decide +kernel⟩
theorem zgS(B:Bl mg)(xC1:Has P w K mg base 1 "number_power" ["base","many"] zam)(xBS:Has P w K mg base 6 "free" ["wheel"] (yeB K))(F:Fun K "how_many" "how_many" zch f fd):FnOk P w K mg base CX0 7 f fd ["wheel"] (yeV K):=by
 refine F.ok ycR (λvs H Q E h=>?_) (λcdv A outer s H vs Q E hr h=>?_)
 ·obtain⟨wh,fa,mk,p,m,t,few,root,n,fr,marks,rfl,_⟩:=h;rfl
 obtain⟨wh,fa,mk,p,m,t,few,root,n,fr,marks,rfl,hW,hF,G,h0,hq,o,hfr,hf6,hpf,hn,q⟩:=h;refine⟨_,(@zab _ _ _ _ _ (@zag _ _ 1 _ _ _ _ ycR.nd rfl (Or.inl rfl) (@zad _ _ _ _ _ _ _ _ _ _ _ xC1 hr (by decide) rfl (@zaa _ _ _ _ _ (@zan _ _ _ _ _ _ _ zas (@zan _ _ _ _ _ _ _ zas (pv 0) yac (λ_ _=>rfl)) yac (λ_ _=>rfl)) (@zaa _ _ _ _ _ (@zan _ _ _ _ _ _ _ zas (pv 0) yac (λ_ _=>rfl)) zac ⋯) ⋯) (by decide) ⋯ ⋯) ⋯ (by trivial)) (@yad _ _ _ (@yaj _ _ _ _ (@zad _ _ _ _ _ _ _ _ _ _ _ xC1 hr (by decide) rfl (@zaa _ _ _ _ _ (pv 1) (@zaa _ _ _ _ _ (@zad _ _ _ _ _ _ _ _ _ _ _ xBS hr (by decide) rfl (@zaa _ _ _ _ _ (pv 0) zac ⋯) (by decide) ⋯ ⋯) zac ⋯) ⋯) (by decide) ⋯ ⋯)))),?_⟩;refine⟨_,rfl,wh,_,_,.ref fa,rfl,rfl,SqT.of hW.w,rfl,fa,_,_,.int p,rfl,rfl,hF,rfl,_,rfl,wh,_,_,Vn few,rfl,rfl,SqT.of hW.w,rfl,p,few,rfl,p_le G.hp G.hm G.hq,by lia,?_⟩;dsimp only[yau];refine⟨_,rfl,_,rfl,wh,fa,mk,p,m,t,few,root,n,fr,marks,rfl,hW,hF,G,h0,hq,o,hfr,?_⟩;exact⟨p^few,fr,rfl,hpf,by lia,q⟩
theorem zew{p m t root:Nat}{marks:List Nat}{few fr n:Nat}(G:Good p m t)(hfr:fr+marks.length=n):∀k,k<=fr->∀u∈wdL p m t root marks few fr k,u.length=n/\∀x∈u,x<p^m
 |0,_,u,hu=>by
  have uz:∀x∈List.replicate fr 0,x<p^m:=λx hx=>by rw[xBa hx];exact yal G.hp G.hm
  cases xAA.mp hu;exact⟨by rw[ych G uz,xAq];lia,zec G uz⟩
 |k+1,hk,u,hu=>by
  obtain⟨v,hv,h1⟩:=List.mem_flatMap.mp hu;obtain⟨y,hy,rfl⟩:=xAg.mp h1;obtain⟨c,_,rfl⟩:=xAg.mp hy;have h2:=zew G hfr k (by lia) v hv;refine⟨?_,yhr G⟩;rw[ygI,ycK,ych G (zck G),zdz (by lia),h2.1];lia
noncomputable def WQ(K:PySem.W.Frag)(wh fa mk:Addr)(p m t few root n fr:Nat)(marks:List Nat)(H:Hp):Prop:=WhAt H wh fa mk few root marks/\Fld K H fa p m t/\Good p m t/\0<root/\root<p^m/\Ord p m t root n/\fr+marks.length=n/\n<=64/\m%few=0/\1<=few/\p^few<=64
noncomputable def ze2(K:PySem.W.Frag):Sp:=λvs H Q _=>∃(wh fa mk:Addr) (p m t few root n fr:Nat) (marks:List Nat),vs=[.ref wh]/\WQ K wh fa mk p m t few root n fr marks H/\
 (p^few)^fr<=4096/\∀(r:Addr) (ds:List Addr) (rs:List (List Nat)) (H':Hp),Same H H'->SqT K H' r (ds.map V.ref)->Rws K H' ds rs->rs.Perm (wdL p m t root marks few fr fr)->Q (.ref r) H'
theorem za5:yah ["wheel","field","own","many","found","place","alone","multiples"] ["wheel"] (zae zcJ):=⟨rfl,rfl,rfl,by decide +kernel,rfl,by decide +kernel,by decide +kernel⟩
theorem ygq{tk:Tok}(m_MOST_WORDS:mg "MOST_WORDS"=some (.int 4096 tk))(B:Bl mg)(xBT:Has P w K mg base 7 "how_many" ["wheel"] (yeV K))(xBV:Has P w K mg base 6 "letters" ["field","few"] (zc5 K))(xBS:Has P w K mg base 6 "free" ["wheel"] (yeB K))(xBX:Has P w K mg base 8 "made" ["wheel","given"] (yge K))(xCf:Has P w K mg base 4 "word_times" ["field","one","word"] (yb0 K))(xCe:Has P w K mg base 2 "word_sum" ["field","one","other"] (ycH K))(F:Fun K "words" "words" zcJ f fd):FnOk P w K mg base CX0 9 f fd ["wheel"] (ze2 K):=by
 refine F.ok za5 (λvs H Q E h=>?_) (λcdv A outer s H vs Q E hr h=>?_)
 ·obtain⟨wh,fa,mk,p,m,t,few,root,n,fr,marks,rfl,_⟩:=h;rfl
 obtain⟨wh,fa,mk,p,m,t,few,root,n,fr,marks,rfl,⟨hW,hF,G,h0,hq,o,hfr,hn,hmf,hf1,hpf⟩,hz,qQ⟩:=h;have hp:=G.hp;have hm:=G.hm;have hQ:=zax hp hm;have hm6:=m_le hp G.hq;have hf6:few<=6:=xAB (Nat.le_of_dvd (by lia) (xBj hmf)) hm6;refine⟨_,(@zab _ _ _ _ _ (@za3 _ _ _ _ _ _ _ _ (@zai _ _ _ _ _ _ _ _ ybU (@zad _ _ _ _ _ _ _ _ _ _ _ xBT hr (by decide) rfl (@zaa _ _ _ _ _ (pv 0) zac ⋯) (by decide) ⋯ ⋯) (@yhl _ _ _ _ _ rfl m_MOST_WORDS (yeP _ _) (by decide)) (yak _)) (@yad _ _ _ zct) zaw) (@zab _ _ _ _ _ (@zag _ _ 1 _ _ _ _ za5.nd rfl (Or.inr rfl) (@zan _ _ _ _ _ _ _ zas (pv 0) yac (λ_ _=>rfl)) ⋯ (by trivial)) (@zab _ _ _ _ _ (@zag _ _ 2 _ _ _ _ za5.nd rfl (Or.inl rfl) (@zad _ _ _ _ _ _ _ _ _ _ _ xBV hr (by decide) rfl (@zaa _ _ _ _ _ (pv 1) (@zaa _ _ _ _ _ (@zan _ _ _ _ _ _ _ zas (pv 0) yac (λ_ _=>rfl)) zac ⋯) ⋯) (by decide) ⋯ ⋯) ⋯ (by trivial)) (@zab _ _ _ _ _ (@zag _ _ 3 _ _ _ _ za5.nd rfl (Or.inl rfl) (@zad _ _ _ _ _ _ _ _ _ _ _ xBS hr (by decide) rfl (@zaa _ _ _ _ _ (pv 0) zac ⋯) (by decide) ⋯ ⋯) ⋯ (by trivial)) (@zab _ _ _ _ _ (@zag _ _ 4 _ _ _ _ za5.nd rfl (Or.inl rfl) (@yaA _ _ _ _ (@zaa _ _ _ _ _ (@zad _ _ _ _ _ _ _ _ _ _ _ xBX hr (by decide) rfl (@zaa _ _ _ _ _ (pv 0) (@zaa _ _ _ _ _ (@zaf _ _ _ _ _ _ _ _ zcL (@zaP _ _ _ _ _ (@zaa _ _ _ _ _ yac zac ⋯)) (pv 3)) zac ⋯) ⋯) (by decide) ⋯ ⋯) zac ⋯)) ⋯ (by trivial)) (@zab _ _ _ _ _ (@yaC _ _ _ _ _ _ _ _ xAl rfl (@yaK _ _ _ _ _ _ rfl (B "range" (by decide)) (@zaa _ _ _ _ _ (pv 3) zac ⋯) ⋯) (@yae _ _ 5 _ za5.nd rfl (Or.inl rfl) (by trivial)) (@zab _ _ _ _ _ (@zag _ _ 6 _ _ _ _ za5.nd rfl (Or.inr rfl) (@zad _ _ _ _ _ _ _ _ _ _ _ xBX hr (by decide) rfl (@zaa _ _ _ _ _ (pv 0) (@zaa _ _ _ _ _ (@zaf _ _ _ _ _ _ _ _ ycP (@zaf _ _ _ _ _ _ _ _ ycP (@zaf _ _ _ _ _ _ _ _ zcL (@zaP _ _ _ _ _ (@zaa _ _ _ _ _ yac zac ⋯)) (pv 5)) (@zaP _ _ _ _ _ (@zaa _ _ _ _ _ yac zac ⋯))) (@zaf _ _ _ _ _ _ _ _ zcL (@zaP _ _ _ _ _ (@zaa _ _ _ _ _ yac zac ⋯)) (@zaf _ _ _ _ _ _ _ _ yaG (@zaf _ _ _ _ _ _ _ _ yaG (pv 3) (pv 5)) yac))) zac ⋯) ⋯) (by decide) ⋯ ⋯) ⋯ (by trivial)) (@zab _ _ _ _ _ (@zag _ _ 7 _ _ _ _ za5.nd rfl (Or.inr rfl) (@yaF _ _ _ _ _ _ _ ["letter"] ["field","alone"] [1,6] _ _ _ _ (id (α:=CSc ["wheel","field","own","many","found","place","alone","multiples"] (zae zcJ) ["letter"] ["field","alone"] [1,6] _) ⟨by rfl,by decide +kernel,by decide +kernel,by decide +kernel,by decide +kernel,by rfl,by decide +kernel⟩) rfl (@ycG _ _ _ _ (pv 2)) (λcl C fp s H=>(@yae _ _ 0 _ (by show List.Nodup (["letter","field","alone"]:List Str);decide +kernel) rfl (Or.inl rfl) (by trivial))) (λ_ _ _ _ _=>zaM) (λ_ _ _ _ _=>(@zad _ _ _ _ _ _ _ _ _ _ _ xCf hr (by decide) rfl (@zaa _ _ _ _ _ (pv 1) (@zaa _ _ _ _ _ (pv 0) (@zaa _ _ _ _ _ (pv 2) zac ⋯) ⋯) ⋯) (by decide) ⋯ ⋯)) (by intro _;rfl)) ⋯ (by trivial)) (@yad _ _ _ (zgk (i:=4) za5.nd rfl (Or.inl rfl) (tg:=["word","multiple"]) (cp:=["multiples","field"]) (ci:=[7,1]) (id (α:=CSc ["wheel","field","own","many","found","place","alone","multiples"] (zae zcJ) ["word","multiple"] ["multiples","field"] [7,1] _) ⟨by rfl,by decide +kernel,by decide +kernel,by decide +kernel,by decide +kernel,by rfl,by decide +kernel⟩) rfl (yaN (pv 4)) (λcl C fp s H=>(yae (i:=0) (by show List.Nodup (["word","multiple","multiples","field"]:List Str);decide +kernel) rfl (Or.inl rfl))) (λ_ _ _ _ _=>(ygD (K:=K) rfl (pv 2))) (λcl C fp s H=>(yae (i:=1) (by show List.Nodup (["word","multiple","multiples","field"]:List Str);decide +kernel) rfl (Or.inl rfl))) (λ_ _ _ _ _=>(zad xCe hr (by decide) rfl (zaa (pv 3) (zaa (pv 0) (zaa (pv 1) zac))))))))) (by intro _;rfl)) (@yad _ _ _ (@yaj _ _ _ _ (@zap _ _ _ _ _ _ _ _ _ yap rfl (B "tuple" (by decide)) zaq (@zaa _ _ _ _ _ (@zal _ _ _ _ _ _ _ _ _ zd6 rfl (B "sorted" (by decide)) ybi (@zaa _ _ _ _ _ (pv 4) zac ⋯) (by decide) (by decide) ⋯ ⋯) zac ⋯) (by decide) (by decide) ⋯ ⋯))))))))),?_⟩
 refine⟨_,rfl,wh,fa,mk,p,m,t,few,root,n,fr,marks,rfl,hW,hF,G,h0,hq,o,hfr,hf6,hpf,hn,?_⟩;refine⟨_,_,rfl,rfl,_,rfl,?_⟩;refine ite2 (λc=>absurd (xAj c) (by lia)) (λc=>?_);dsimp only[yfr,yau];refine⟨_,rfl,wh,_,_,.ref fa,rfl,rfl,SqT.of hW.w,rfl,?_⟩;dsimp only[yau];refine⟨_,rfl,_,rfl,wh,_,_,Vn few,rfl,rfl,SqT.of hW.w,rfl,fa,p,m,t,few,rfl,hF,G,hf6,λow H1 s1 now eow=>?_⟩;have hW1:=hW.same s1;have hF1:=Same.tup s1 hF;dsimp only[yau];refine⟨_,rfl,wh,fa,mk,p,m,t,few,root,n,fr,marks,rfl,hW1,hF1,G,h0,hq,o,hfr,?_⟩;dsimp only[yau];refine⟨_,rfl,szl 1,λz hz1=>?_⟩;have t1:=yab hz1 (.tup [.int 0]);refine⟨_,rfl,yds (SqT.of yaa) (by lia) λz2 H2 t2 hz2=>?_⟩;have s2:=s1.trans (t1.trans t2);refine⟨wh,fa,mk,z2,p,m,t,few,root,marks,_,rfl,hW.same s2,Same.tup s2 hF,G,h0,hq,by lia,hz2,by rw[xAq];lia,λx hx=>by rw[xBa hx];exact yal hp hm,λw0 H3 t3 hw0=>?_⟩;have s3:=s2.trans t3;refine⟨szl 1,λD hD=>?_⟩;have t4:=yab hD (.lst [.ref w0]);have s4:=s3.trans t4;dsimp only[yau];have ll:=zer G hmf hf1;have wl:∀k,k<=fr->(wdL p m t root marks few fr k).length<=4096:=λk hk=>by
  rw[zcN,ll];exact xAB (xAI (xB1 (by lia)) hk) hz
 have uz:∀x∈List.replicate fr 0,x<p^m:=λx hx=>by rw[xBa hx];exact yal hp hm
 have wr:∀k,k<=fr->∀u∈wdL p m t root marks few fr k,u.length=n/\∀x∈u,x<p^m:=zew G hfr;refine⟨_,rfl,(fr:Int),rfl,by lia,by lia,?_⟩;refine yaM (zbn (lo:=0) (n:=((fr:Nat):Int).toNat)) (λk σ H'=>Same H H'/\H' ow=some (.tup ((lets p m t few).map Vn))/\∃(D:Addr) (ds:List Addr) (s5 s6 s7:Option V),H' D=some (.lst (ds.map V.ref))/\Rws K H' ds (wdL p m t root marks few fr k)/\σ=[some (.ref wh),some (.ref fa),some (.ref ow),some (Vn fr),some (.ref D),s5,s6,s7]) ⟨s4,t4 _ _ (t3 _ _ (t2 _ _ (t1 _ _ eow))),D,[w0],none,none,none,yaa,⟨Same.tup t4 hw0,trivial⟩,rfl⟩ (λ_ _ _ _ _=>trivial) ?_ ?_
 ·rintro k x σ H5 H5' hk ⟨s5,e5,D,ds,v5,v6,v7,eD,hR,rfl⟩ ⟨rfl,rfl⟩;rw[xAs]at hk;rw[show V.int (0+(k:Int))=Vn k from ydv (Int.zero_add _)];dsimp only[yau];refine⟨_,rfl,szl 1,λa1 ha1=>?_⟩;have x1:=yab ha1 (.tup [.int 0]);refine⟨_,rfl,yds (SqT.of yaa) (by lia) λa2 H6 x2 ha2=>?_⟩;refine⟨szl 1,λa3 ha3=>?_⟩;have x3:=yab ha3 (.tup [.int 1]);refine zdD (Same.tup x3 ha2) (SqT.of yaa) (by rw[xA0,xAq,List.length_singleton];lia) λa4 H7 x4 ha4=>?_
  refine⟨szl 1,λa5 ha5=>?_⟩;have x5:=yab ha5 (.tup [.int 0]);refine⟨_,rfl,_,rfl,_,_,rfl,rfl,_,_,rfl,rfl,?_⟩;rw[show((λi j:Int=>V.int (i-j)) ((fr:Int)-(k:Int)) 1)=Vn (fr-k-1) from ydv (by lia)];refine yds (SqT.of yaa) (by lia) λa6 H8 x6 ha6=>?_
  refine zdD (Same.tup (x5.trans x6) ha4) ha6 (by rw[xAt,xA0,xAq,xA0,xAq];show k+1+_<=_;lia) λa7 H9 x7 ha7=>?_
  have s9:=s5.trans ((x1.trans x2).trans ((x3.trans x4).trans ((x5.trans x6).trans x7)));have y9:=(x1.trans x2).trans ((x3.trans x4).trans ((x5.trans x6).trans x7));have eu:(List.replicate k 0).map Vn++[.int 1]++(List.replicate (fr-k-1) 0).map Vn=(unG fr k).map Vn:=by
   unfold unG;rw[xAe,xAe];rfl
  rw[eu]at ha7;refine⟨wh,fa,mk,a7,p,m,t,few,root,marks,unG fr k,rfl,hW.same s9,Same.tup s9 hF,G,h0,hq,by lia,ha7,by rw[zdz hk];lia,zck G,λal H10 x10 hal=>?_⟩;have s10:=s9.trans x10;have hal1:(mdL p m t root marks (unG fr k)).length=n:=by rw[ych G (zck G),zdz hk];lia
  have hal2:=zec (root:=root) (marks:=marks) G (zck (fr:=fr) (k:=k) G);dsimp only[yau];have hF10:=Same.tup s10 hF;have eow10:=x10 _ _ (y9 _ _ e5);refine⟨_,rfl,ow,rfl,⟨_,SqT.of eow10⟩,?_⟩;refine yav (zbt (xs:=(lets p m t few).map Vn)) (λi acc H'=>Same H10 H'/\∃ms:List Addr,acc=ms.map V.ref/\Rws K H' ms ((mulR p m t root marks few fr k).take i)) ⟨Same.refl _,[],rfl,trivial⟩ (λi acc H' _ h=>SqT.of (h.1 _ _ eow10)) ?_ ?_ ?_
  ·rintro i acc H' hi ⟨_,ms,rfl,hms⟩;have h1:=hms.len;rw[xAC]at h1;rw[xA0,ll]at hi;rw[xA0];exact yao (by lia)
  ·rintro i acc z H11 H12 hi ⟨s11,ms,rfl,hms⟩ ⟨rfl,ez⟩;rw[xA0]at hi;rw[zav hi]at ez;cases ez;refine⟨_,rfl,_,rfl,_,rfl,fa,al,p,m,t,(lets p m t few).getD i 0,mdL p m t root marks (unG fr k),rfl,Same.tup s11 hF10,G,yaO ya3 hi,Same.tup s11 hal,by lia,hal2,λr H13 s13 _ er=>?_⟩;refine⟨s11.trans s13,ms++[r],by rw[xAe];rfl,?_⟩;rw[za6 (d:=[]) (by unfold mulR;rw[xA0];exact hi)];refine(hms.same s13).app ⟨?_,trivial⟩;have e:(mulR p m t root marks few fr k).getD i []=yaB p m t ((lets p m t few).getD i 0) (mdL p m t root marks (unG fr k)):=by
    unfold mulR;simp[List.getD,hi]
   rw[e];exact SqT.of er
  rw[xA0];rintro acc H11 ⟨s11,ms,rfl,hms⟩ M hM;rw[List.take_of_length_le (by unfold mulR;rw[xA0];exact xA4 _)]at hms;have x12:=yab hM (.lst (ms.map V.ref));have s12:=s10.trans (s11.trans x12);have z12:=(y9.trans x10).trans (s11.trans x12);dsimp only[yau];have eM:upd H11 M (.lst (ms.map V.ref)) M=some (.lst (ms.map V.ref)):=yaa;have hms12:=hms.same x12;have eow12:=z12 _ _ e5;have eD12:=z12 _ _ eD;have hR12:=hR.same z12;generalize upd H11 M (.lst (ms.map V.ref))=H12 at x12 s12 z12 eM hms12 eow12 eD12 hR12 ⊢;refine⟨_,rfl,D,rfl,⟨_,SqL.of eD12⟩,?_⟩;have hRl:=hR12.len;have hml:=hms12.len;have hmul:(mulR p m t root marks few fr k).length=(lets p m t few).length:=xA0 _;have sz:∀i j:Nat,i<(wdL p m t root marks few fr k).length->j<(lets p m t few).length->i*(lets p m t few).length+j<4096:=λi j hi hj=>by
   have h1:=wl (k+1) hk;have h2:(wdL p m t root marks few fr (k+1)).length=(wdL p m t root marks few fr k).length*(lets p m t few).length:=by rw[zcN,zcN,xAD]
   have h3:(i+1)*(lets p m t few).length<=(wdL p m t root marks few fr k).length*(lets p m t few).length:=Nat.mul_le_mul_right _ hi;rw[Nat.succ_mul]at h3;lia
  have fl:∀i,i<=(wdL p m t root marks few fr k).length->(((wdL p m t root marks few fr k).take i).flatMap λu=>(mulR p m t root marks few fr k).map (sums p m u)).length=i*(lets p m t few).length:=λi hi=>by
   rw[List.length_flatMap,show(List.map (λu=>((mulR p m t root marks few fr k).map (sums p m u)).length) ((wdL p m t root marks few fr k).take i))=((wdL p m t root marks few fr k).take i).map λ_=>(lets p m t few).length from xAy λ_ _=>by rw[xA0];exact hmul];rw[List.map_const',List.sum_replicate_nat,xAC,Nat.min_eq_left hi]
  refine zfx (yaE (xs:=ds.map V.ref)) (In:=λacc N σ H=>tIn _ _ _ acc N σ H) (λi acc H'=>Same H12 H'/\∃es:List Addr,acc=es.map V.ref/\Rws K H' es (((wdL p m t root marks few fr k).take i).flatMap λu=>(mulR p m t root marks few fr k).map (sums p m u))) ⟨Same.refl _,[],rfl,trivial⟩ (λi acc H' _ h=>SqL.of (h.1 _ _ eD12)) ?_ ?_
  ·rintro i acc x H13 H13' hi ⟨s13,es,rfl,hes⟩ ⟨rfl,ez⟩;rw[xA0,hRl]at hi;obtain⟨d,ed,hd⟩:=hR12.get hi;rw[xA8,ed]at ez;cases ez;obtain⟨u,eu⟩:∃u,u=(wdL p m t root marks few fr k).getD i []:=⟨_,rfl⟩
   rw[<-eu]at hd;have hu:=wr k (by lia) u (by rw[eu];simp[List.getD,hi]);have hmsl:=fl i (Nat.le_of_lt hi);rw[za6 (d:=[]) hi,List.flatMap_append,<-eu,List.flatMap_singleton];generalize (((wdL p m t root marks few fr k).take i).flatMap λu=>(mulR p m t root marks few fr k).map (sums p m u))=prev at hes hmsl ⊢;refine⟨_,rfl,M,rfl,⟨_,SqL.of (s13 _ _ eM)⟩,?_⟩;refine zh5 (yaE (xs:=ms.map V.ref)) (λj σ acc H'=>Same H12 H'/\(∃es:List Addr,acc=es.map V.ref/\Rws K H' es (prev++((mulR p m t root marks few fr k).take j).map (sums p m u)))/\∃sj,σ=[some (.ref d),sj,some (.ref M),some (.ref fa)]) ⟨s13,⟨es,rfl,by rw[List.take_zero,List.map_nil,List.append_nil];exact hes⟩,none,rfl⟩ (λj σ acc H' _ h=>SqL.of (h.1 _ _ eM)) ?_ ?_ ?_
   ·rintro j σ acc H' hj ⟨_,⟨es,rfl,he⟩,_⟩;have h1:=he.len;rw[xAt,xA0,xAC]at h1;rw[xA0,hml,hmul]at hj;have:=sz i j hi hj;rw[xA0,h1,hmsl];exact szl _ (show i*(lets p m t few).length+min j _+1<=100000 by lia)
   ·rintro j σ acc x Ha Hb hj ⟨sa,⟨es,rfl,he⟩,sj,rfl⟩ ⟨rfl,ez⟩;rw[xA0,hml]at hj;obtain⟨d2,ed2,hd2⟩:=hms12.get hj;rw[xA8,ed2]at ez;cases ez;have e2:(mulR p m t root marks few fr k).getD j []=yaB p m t ((lets p m t few).getD j 0) (mdL p m t root marks (unG fr k)):=by
     unfold mulR;simp[List.getD,hmul ▸ hj]
    refine⟨_,rfl,_,rfl,_,rfl,fa,d,d2,p,m,t,u,(mulR p m t root marks few fr k).getD j [],rfl,Same.tup (s12.trans sa) hF,G,Same.tup sa hd,Same.tup sa hd2,by lia,hu.2,by rw[e2];exact zb3 G _ _,λr Hc sc _ er=>?_⟩;refine⟨sa.trans sc,⟨es++[r],by rw[xAe];rfl,?_⟩,_,rfl⟩;rw[za6 (d:=[]) hj,xAe,<-xB5];exact(he.same sc).app ⟨SqT.of er,trivial⟩
   ·rintro σ acc Ha ⟨sa,⟨es,rfl,he⟩,_⟩;rw[xA0,hml,xAJ]at he;exact⟨sa,es,rfl,he⟩
  ·rintro acc H13 ⟨s13,es,rfl,hes⟩ D2 hD2;rw[xA0,hRl,xAJ]at hes;have x14:=yab hD2 (.lst (es.map V.ref));exact⟨s12.trans (s13.trans x14),x14 _ _ (s13 _ _ eow12),D2,es,_,_,_,yaa,hes.same x14,rfl⟩
 ·rw[xAs];rintro σ H5 ⟨s5,e5,D,ds,v5,v6,v7,eD,hR,rfl⟩;refine⟨_,rfl,D,ds,rfl,SqL.of eD,λd hd=>?_,λl es hl pe=>?_⟩
  ·obtain⟨r,hr,h⟩:=hR.mem hd;refine⟨r.map Int.ofNat,?_,by rw[List.map_map];exact h⟩;rw[xA0,(wr fr (xA4 _) r hr).1];exact o.pos
  ·obtain⟨qs,pq,hq2⟩:=hR.perm pe;have x6:=yab hl (.lst (es.map V.ref));refine⟨l,_,rfl,.inl ⟨SqL.of yaa,λr hr=>?_⟩⟩;have x7:=x6.trans (yab hr (.tup (es.map V.ref)));exact qQ r es qs _ (s5.trans x7) (SqT.of yaa) (hq2.same x7) pq
end
end My
end
section
-- text: Q31a
namespace My
open PySem L2 Dg
noncomputable def mkP(p m t r:Nat)(row:List Nat)(j:Nat):List Nat:=(List.range (row.length+1)).map λi=>if i<j then sub p m ((0::row).getD i 0) (mul p m t r ((row++[0]).getD i 0)) else(0::row).getD i 0
theorem zf6(p m t r:Nat)(row:List Nat)(j:Nat):(mkP p m t r row j).length=row.length+1:=by simp[mkP]
theorem ygj(p m t r:Nat)(row:List Nat):mkP p m t r row 0=0::row:=by
 refine xAP (by simp[mkP]) λi h1 h2=>?_
 simp only[mkP,xBq,xBh];rw[if_neg (by lia),xAf,xA5 h2];rfl
theorem yhy{p m t r:Nat}(G:Good p m t){row:List Nat}(hr:∀y∈row,y<p^m):mkP p m t r row row.length=mkS p m t r row:=by
 refine xAy λi hi=>?_
 have hi:=xAw.mp hi;by_cases c:i<row.length
 ·rw[if_pos c]
 ·rw[if_neg c];have e:i=row.length:=by lia
  subst e;have e1:(row++[0]).getD row.length 0=0:=by simp[List.getD]
  rw[e1,mul_zero G.hp G.hm];have hlt:(0::row).getD row.length 0<p^m:=yaO (xs:=0::row) (λx hx=>by
   rcases xA9.mp hx with rfl|h
   ·exact yal G.hp G.hm
   ·exact hr x h) (by simp)
  have:=zca G.hp G.hm (y:=0) hlt;rw[add_zero G.hp G.hm (zbS G.hp G.hm _ _)]at this;exact this.symm
theorem yhc{p m t r:Nat}{row:List Nat}{j:Nat}(hj:j<row.length):(mkP p m t r row j).getD j 0=(0::row).getD j 0:=by
 unfold mkP;rw[rget (by lia),if_neg (by lia)]
theorem zhi{p m t r:Nat}{row:List Nat}{j:Nat}(hj:j<row.length):(mkP p m t r row j).set j (sub p m ((0::row).getD j 0) (mul p m t r (row.getD j 0)))=mkP p m t r row (j+1):=by
 refine xAP (by simp[mkP]) λi h1 h2=>?_
 rw[List.getElem_set];by_cases e:j=i
 ·subst e;rw[if_pos rfl];simp only[mkP,xBq,xBh];rw[if_pos (by lia)];have e2:(row++[0]).getD j 0=row.getD j 0:=by simp[List.getD,List.getElem?_append,hj]
  rw[e2]
 ·rw[if_neg e];simp only[mkP,xBq,xBh];by_cases c:i<j
  ·rw[if_pos c,if_pos (by lia)]
  ·rw[if_neg c,if_neg (by lia)]
theorem ybH(n:Nat):(List.replicate n [V.int 0]).flatten=(List.replicate n 0).map Vn:=by
 induction n with
 |zero=>rfl
 |succ n ih=>rw[xAH,List.flatten_cons,ih,xAH];rfl
noncomputable def mvL(p m t root n:Nat)(marks:List Nat)(i:Nat):List Nat:=padL i (n-i-(marks.length+1)) (mkL p m t root marks)
theorem yea{p m t root n:Nat}{marks:List Nat}{i:Nat}(h:i<n-marks.length):(mvL p m t root n marks i).length=n:=by
 unfold mvL;rw[yhx,zaV];lia
noncomputable def Tups(H:Hp)(ds:List Addr)(ls:List (List Nat)):Prop:=ds.length=ls.length/\∀(i:Nat) d,ds[i]?=some d->∃rs,ls[i]?=some rs/\H d=some (.tup (rs.map Vn))
theorem Tups.same{H H':Hp}{ds:List Addr}{ls:List (List Nat)}(h:Tups H ds ls)(s:Same H H'):Tups H' ds ls:=⟨h.1,λi d e=>by obtain⟨rs,a,b⟩:=h.2 i d e;exact⟨rs,a,s _ _ b⟩⟩
theorem Tups.at{H:Hp}{ds:List Addr}{ls:List (List Nat)}{l:Addr}{xs:List V}{o:HO}(h:Tups H ds ls)(hl:H l=some (.lst xs)):Tups (upd H l o) ds ls:=⟨h.1,λi d e=>by
 obtain⟨rs,a,b⟩:=h.2 i d e;refine⟨rs,a,?_⟩;rw[yag (λq=>by rw[q,hl]at b;cases b)];exact b⟩
theorem Tups.snoc{H:Hp}{ds:List Addr}{ls:List (List Nat)}{d:Addr}{rs:List Nat}(h:Tups H ds ls)(hd:H d=some (.tup (rs.map Vn))):Tups H (ds++[d]) (ls++[rs]):=by
 refine⟨by simp[h.1],λi e he=>?_⟩;rw[List.getElem?_append]at he;split at he
 ·rename_i hi;obtain⟨r,a,b⟩:=h.2 i e he;exact⟨r,by rw[xBn (by rw[<-h.1];exact hi)];exact a,b⟩
 ·rename_i hi;have hi2:i=ds.length:=by
   have:=(xAk.mp he).1;simp at this;lia
  subst hi2;simp at he;subst he;exact⟨rs,by rw[h.1,xAU (xA4 _)];simp,hd⟩
theorem Tups.app{H:Hp}{ds es:List Addr}{ls ks:List (List Nat)}(h:Tups H ds ls)(h2:Tups H es ks):Tups H (ds++es) (ls++ks):=by
 refine⟨by simp[h.1,h2.1],λi e he=>?_⟩;rw[List.getElem?_append]at he;split at he
 ·rename_i hi;obtain⟨r,a,b⟩:=h.2 i e he;exact⟨r,by rw[xBn (by rw[<-h.1];exact hi)];exact a,b⟩
 ·rename_i hi;obtain⟨r,a,b⟩:=h2.2 _ e he;exact⟨r,by rw[xAU (by rw[<-h.1];lia),<-h.1];exact a,b⟩
noncomputable def WOk(p m t root n:Nat)(marks:List Nat)(ws:List (List Nat)):Prop:=∀w∈ws,w.length=n/\(∀x∈w,x<p^m)/\∀k∈marks,val p m t (pw p m t root k) w=0
noncomputable def lwL(p m t root n:Nat)(marks:List Nat)(few:Nat):Nat->List (List Nat)
 |0=>[List.replicate n 0]
 |k+1=>(lets p m t few).flatMap λc=>(lwL p m t root n marks few k).map λu=>addL p m u (yaB p m t c (mvL p m t root n marks k))
theorem zdA{α:Type}{ws:List α}{f:Nat->α->α}:∀cs:List Nat,(cs.flatMap λc=>ws.map (f c)).length=cs.length*ws.length
 | []=>by simp
 |c::cs=>by
  rw[List.flatMap_cons,xAt,xA0,zdA cs,xAO,Nat.succ_mul,Nat.add_comm]
theorem zdK(p m t root n:Nat)(marks:List Nat)(few:Nat):∀k,(lwL p m t root n marks few k).length=(lets p m t few).length^k
 |0=>rfl
 |k+1=>by
  show(List.flatMap _ _).length=_;rw[zdA,zdK p m t root n marks few k,xAD,xBb]
section
variable {P:Program} {w:World} {K:PySem.W.Frag} {mg:Str->Option Value} {base:Heap} {f:Addr} {fd:FuncData}
theorem ya8:yah ["_law_table_here","_law_few","_law_high","_law_some"] ["_law_table_here","_law_few"] (zae zaZ):=⟨rfl,rfl,rfl,by decide +kernel,rfl,by decide +kernel,by decide +kernel⟩
theorem yeH(B:Bl mg)(xBI:Has P w K mg base 1 "_law_raised" ["_law_one","_law_many"] zam)(xBF:Has P w K mg base 1 "_law_power" ["_law_table_here","_law_one","_law_many"] ydm)(F:Fun K "_law_letters" "_law_letters" zaZ f fd):FnOk P w K mg base CX0 2 f fd ["_law_table_here","_law_few"] ycV:=by
 refine F.ok ya8 (λvs H Q E h=>?_) (λcdv A outer s H vs Q E hr h=>?_)
 ·obtain⟨tb,fa,pa,la,p,m,t,b,few,rfl,_⟩:=h;rfl
 obtain⟨tb,fa,pa,la,p,m,t,b,few,rfl,T,hf,q⟩:=h;have G:=T.good;have hp:=G.hp;have hm:=G.hm;have hQ:=G.hq;refine⟨_,(zab (@zag _ _ 2 _ _ _ _ ya8.nd rfl (Or.inr rfl) (zad xBI hr (by decide) rfl (zaa (@zaB _ _ _ _ _ _ (zbq hr) (pv 0) zaH (λ_ _=>rfl)) (zaa (pv 1) zac ⋯) ⋯) (by decide) ⋯ ⋯) ⋯ (by trivial)) (zab (@zag _ _ 3 _ _ _ _ ya8.nd rfl (Or.inl rfl) (zap (zb9 rfl) rfl (B "list" (by decide)) za0 (zaa (@zcG _ _ _ _ _ rfl (B "range" (by decide)) (zaa (@zaB _ _ _ _ _ _ (zbq hr) (pv 0) zaH (λ_ _=>rfl)) zac ⋯) ⋯) zac ⋯) (by decide) (by decide) ⋯ ⋯) ⋯ (by trivial)) (yad (@yaj _ _ _ _ (@yaF _ _ _ _ _ _ _ ["_law_one"] ["_law_table_here","_law_high"] [0,2] _ _ _ _ (id (α:=CSc ["_law_table_here","_law_few","_law_high","_law_some"] (zae zaZ) ["_law_one"] ["_law_table_here","_law_high"] [0,2] _) ⟨by rfl,by decide +kernel,by decide +kernel,by decide +kernel,by decide +kernel,by rfl,by decide +kernel⟩) rfl (@yaN _ _ _ _ (pv 3)) (λcl C fp s H=>(@yae _ _ 0 _ (by show List.Nodup (["_law_one","_law_table_here","_law_high"]:List Str);decide +kernel) rfl (Or.inl rfl) (by trivial))) (λ_ _ _ _ _=>(@zbz _ _ _ (@zai _ _ _ _ _ _ _ _ ya9 (zad xBF hr (by decide) rfl (zaa (pv 1) (zaa (pv 0) (zaa (pv 2) zac ⋯) ⋯) ⋯) (by decide) ⋯ ⋯) (pv 0) (yak _)))) (λ_ _ _ _ _=>(pv 0)) (by intro _;rfl)))))),?_⟩;refine⟨_,rfl,tb,_,rfl,T.get zf8,_,rfl,p,few,rfl,p_le hp hm hQ,by lia,?_⟩;refine⟨_,rfl,tb,_,rfl,T.get zcq,_,rfl,λrg hrg=>?_⟩;refine⟨rg,0,((p^m:Nat):Int),rfl,yaa,⟨by decide,by decide,by lia,by lia⟩,szl _ (by lia),λso hso=>?_⟩;have eI:L2.intsFrom 0 (((p^m:Nat):Int)-0).toNat=(List.range (p^m)).map Vn:=by
  rw[Int.sub_zero,xAs];unfold L2.intsFrom;refine xAy λi _=>?_
  rw[Int.zero_add]
 rw[eI];have s1:=(yab hrg (.rng 0 ((p^m:Nat):Int))).trans (yab hso (.lst ((List.range (p^m)).map Vn)));have e1:upd (upd H rg (.rng 0 ((p^m:Nat):Int))) so (.lst ((List.range (p^m)).map Vn)) so=some (.lst ((List.range (p^m)).map Vn)):=yaa;dsimp only[yau];generalize upd (upd H rg (.rng 0 ((p^m:Nat):Int))) so (.lst ((List.range (p^m)).map Vn))=H1 at s1 e1 ⊢;have T1:=T.same s1;refine⟨_,rfl,so,rfl,⟨_,SqL.of e1⟩,?_⟩;refine yav (yaE (xs:=(List.range (p^m)).map Vn)) (λk acc H'=>H'=H1/\acc=(((List.range k).filter λx=>decide (pw p m t x (p^few)=x)).map Vn)) ⟨rfl,rfl⟩ (λi acc H' _ h=>by rw[h.1];exact SqL.of e1) ?_ ?_ ?_
 ·rintro k acc H' hk ⟨_,rfl⟩;have:=List.length_filter_le (λx=>decide (pw p m t x (p^few)=x)) (List.range k);rw[xAr]at this;rw[xA0,xAr]at hk;rw[xA0];exact yao (by lia)
 ·rintro k acc x H' H'' hk ⟨rfl,rfl⟩ ⟨rfl,ez⟩;rw[xA0,xAr]at hk;rw[xA8,xAL hk]at ez;cases ez;refine⟨_,rfl,_,rfl,_,rfl,tb,fa,pa,la,p,m,t,b,k,((p^few:Nat):Int),rfl,T1,hk,?_⟩;rw[zcP G hk];refine⟨_,rfl,rfl,_,rfl,?_⟩;have ed:decide (Vn (pw p m t k (p^few))=Vn k)=decide (pw p m t k (p^few)=k):=decide_eq_decide.mpr ⟨λe=>Int.ofNat.inj (V.int.inj e),λe=>by rw[e]⟩;rw[ed,xBd,List.filter_append];refine ite2 (λc=>?_) (λc=>?_)
  ·have c':pw p m t k (p^few)=k:=xAj c;refine⟨_,rfl,rfl,?_⟩;rw[xAe];simp[c']
  ·have c':¬ pw p m t k (p^few)=k:=λh=>c (xAG h)
   refine⟨rfl,?_⟩;simp[c']
 ·rintro acc H2 ⟨rfl,rfl⟩ D hD;rw[xA0,xAr];exact q D _ (s1.trans (yab hD _)) (s1.free hD) yaa
theorem zay:yah ["_law_table_here","_law_wheel_here","_law_row","_law_mark","_law_root","_law_moved","_law_place","_law_thing"] ["_law_table_here","_law_wheel_here"] (zae zbG):=⟨rfl,rfl,rfl,by decide +kernel,rfl,by decide +kernel,by decide +kernel⟩
theorem zgd(B:Bl mg)(xBF:Has P w K mg base 1 "_law_power" ["_law_table_here","_law_one","_law_many"] ydm)(xBB:Has P w K mg base 2 "_law_minus" ["_law_table_here","_law_one","_law_other"] zdU)(xBN:Has P w K mg base 1 "_law_times" ["_law_table_here","_law_one","_law_other"] zbD)(F:Fun K "_law_maker" "_law_maker" zbG f fd):FnOk P w K mg base CX0 3 f fd ["_law_table_here","_law_wheel_here"] ydQ:=by
 refine F.ok zay (λvs H Q E h=>?_) (λcdv A outer s H vs Q E hr h=>?_)
 ·obtain⟨tb,fa,pa,la,wh,mk,p,m,t,b,few,root,marks,rfl,_⟩:=h;rfl
 obtain⟨tb,fa,pa,la,wh,mk,p,m,t,b,few,root,marks,rfl,T,hW,hr',hml,q⟩:=h;have G:=T.good;have hp:=G.hp;have hm:=G.hm;refine⟨_,(zab (@zag _ _ 2 _ _ _ _ zay.nd rfl (Or.inl rfl) (@yaA _ _ _ _ (zaa yac zac ⋯)) ⋯ (by trivial)) (zab (@yaC _ _ _ _ _ _ _ _ xAl rfl (@ycG _ _ _ _ (zan zas (pv 1) yac (λ_ _=>rfl))) (@yae _ _ 3 _ zay.nd rfl (Or.inl rfl) (by trivial)) (zab (@zag _ _ 4 _ _ _ _ zay.nd rfl (Or.inl rfl) (zad xBF hr (by decide) rfl (zaa (pv 0) (zaa (zan zas (pv 1) yac (λ_ _=>rfl)) (zaa (pv 3) zac ⋯) ⋯) ⋯) (by decide) ⋯ ⋯) ⋯ (by trivial)) (zab (@zag _ _ 5 _ _ _ _ zay.nd rfl (Or.inl rfl) (zaf zc8 (@yaA _ _ _ _ (zaa yac zac ⋯)) (pv 2)) ⋯ (by trivial)) (zab (@yaC _ _ _ _ _ _ _ _ xAl rfl (@ybC _ _ _ _ _ _ _ _ rfl (B "enumerate" (by decide)) (zaa (pv 2) zac ⋯) ⋯) (@za2 _ _ _ _ _ _ rfl (zah (@yae _ _ 6 _ zay.nd rfl (Or.inl rfl) (by trivial)) (zah (@yae _ _ 7 _ zay.nd rfl (Or.inl rfl) (by trivial)) zaE ⋯) ⋯) ⋯ ⋯) (yad (@yaU _ _ _ _ _ _ (zad xBB hr (by decide) rfl (zaa (pv 0) (zaa (zan zao (pv 5) (pv 6) (λ_ _=>rfl)) (zaa (zad xBN hr (by decide) rfl (zaa (pv 0) (zaa (pv 4) (zaa (pv 7) zac ⋯) ⋯) ⋯) (by decide) ⋯ ⋯) zac ⋯) ⋯) ⋯) (by decide) ⋯ ⋯) (@zb5 _ _ _ _ _ _ _ (pv 5) (pv 6) yaW (by intro _;rfl)) ⋯ ⋯ ⋯)) (by intro _;rfl)) (yad (@zag _ _ 2 _ _ _ _ zay.nd rfl (Or.inl rfl) (pv 5) ⋯ (by trivial)))))) (by intro _;rfl)) (yad (@yaj _ _ _ _ (pv 2))))),?_⟩;refine⟨szl 1,λr0 hr0=>?_⟩;have s1:=yab hr0 (.lst [.int 1]);have e1:upd H r0 (.lst [.int 1]) r0=some (.lst ((mkL p m t root []).map Vn)):=yaa;dsimp only[yau];generalize upd H r0 (.lst [.int 1])=H1 at s1 e1 ⊢;have hW1:=hW.same s1;refine⟨_,rfl,wh,_,_,.ref mk,rfl,rfl,SqT.of hW1.w,rfl,mk,rfl,⟨_,SqT.of hW1.k⟩,?_⟩;refine yaM (zbt (xs:=marks.map Vn)) (λi σ H'=>Same H H'/\∃(rr:Addr) (s3 s4 s5 s6 s7:Option V),H rr=none/\H' rr=some (.lst ((mkL p m t root (marks.take i)).map Vn))/\σ=[some (.ref tb),some (.ref wh),some (.ref rr),s3,s4,s5,s6,s7]) ⟨s1,r0,none,none,none,none,none,hr0,e1,rfl⟩ (λi σ H' _ h=>SqT.of (h.1 _ _ hW.k)) ?_ ?_
 ·rintro i z σ H2 H2' hi ⟨s2,rr,s3,s4,s5,s6,s7,nrr,e2,rfl⟩ ⟨rfl,ez⟩;rw[xA0]at hi;have hk:marks[i]?=some (marks.getD i 0):=by rw[xA5 hi];simp[List.getD,hi]
  rw[zav hi]at ez;cases ez;have T2:=T.same s2;refine⟨_,rfl,_,rfl,wh,_,_,Vn root,rfl,rfl,SqT.of (s2 _ _ hW.w),rfl,_,rfl,tb,fa,pa,la,p,m,t,b,root,(((marks.getD i 0):Nat):Int),rfl,T2,hr',?_⟩;rw[zcP G hr'];dsimp only[yau];have hrow:=zbE (root:=root) G (marks.take i);have hrl:(mkL p m t root (marks.take i)).length<=65:=by rw[zaV,xAC];lia
  have etk:=zeN (p:=p) (m:=m) (t:=t) (root:=root) hk;rw[etk];generalize mkL p m t root (marks.take i)=row at e2 hrow hrl ⊢;have hpr:=zaS (t:=t) hp hm root (marks.getD i 0);generalize pw p m t root (marks.getD i 0)=rt at hpr ⊢;have hpos:=yal hp hm;refine⟨szl 1,λz1 hz1=>?_⟩;have t1:=yab hz1 (.lst [.int 0]);refine⟨_,rfl,z1,rr,_,_,rfl,rfl,yaa,t1 _ _ e2,by rw[xA0];exact szl _ (by simp;lia),λl1 hl1=>?_⟩;have t2:=yab hl1 (.lst ([.int 0]++row.map Vn));have f2:upd (upd H2' z1 (.lst [.int 0])) l1 (.lst ([.int 0]++row.map Vn)) l1=some (.lst ((mkP p m t rt row 0).map Vn)):=by rw[ygj];exact yaa
  have e2':=t2 _ _ (t1 _ _ e2);have s4':=s2.trans (t1.trans t2);have nl1:H l1=none:=(s2.trans t1).free hl1;have nrl:rr≠l1:=yaf (t1 _ _ e2) hl1;dsimp only[yau];generalize upd (upd H2' z1 (.lst [.int 0])) l1 (.lst ([.int 0]++row.map Vn))=H3 at f2 e2' s4' ⊢;have q1:∀x∈(0::row),x<p^m:=λx hx=>by
   rcases xA9.mp hx with rfl|h
   ·exact hpos
   ·exact hrow x h
  refine⟨_,rfl,false,rr,rfl,⟨_,SqL.of e2'⟩,?_⟩;refine yaM (ya1 (b:=false) (xs:=row.map Vn)) (λj σ H'=>Same H H'/\H' rr=some (.lst (row.map Vn))/\H' l1=some (.lst ((mkP p m t rt row j).map Vn))/\∃s6 s7,σ=[some (.ref tb),some (.ref wh),some (.ref rr),some (Vn (marks.getD i 0)),some (Vn rt),some (.ref l1),s6,s7]) ⟨s4',e2',f2,_,_,rfl⟩ (λi σ H' _ h=>SqL.of h.2.1) ?_ ?_
  ·rintro j z σ H4 H5 hj ⟨s5',e4,f4,s6',s7',rfl⟩ ⟨Tt,u,rfl,eu,hT,rfl⟩;rw[xA0]at hj;rw[zav hj]at eu;cases eu;have sT:=yab hT (.tup [.int (j:Int),Vn (row.getD j 0)]);have s6:=s5'.trans sT;have e5:=sT _ _ e4;have f5:=sT _ _ f4;have T5:=T.same s6;have hj0:=yaO q1 (i:=j) (by simp;lia);refine⟨Tt,_,rfl,SqT.of yaa,rfl,_,_,rfl,_,_,rfl,rfl,?_⟩;refine⟨_,rfl,_,rfl,_,rfl,l1,_,_,Vn ((0::row).getD j 0),rfl,rfl,SqL.of f5,?_,?_⟩
   ·rw[<-yhc (p:=p) (m:=m) (t:=t) (r:=rt) hj];exact zaN (zav (by rw[zf6];lia))
   refine⟨_,rfl,_,rfl,_,rfl,tb,fa,pa,la,p,m,t,b,rt,row.getD j 0,rfl,T5,hpr,yaO hrow hj,?_⟩;refine⟨tb,fa,pa,la,p,m,t,b,(0::row).getD j 0,_,rfl,T5,hj0,zaA hp hm _ _,?_⟩;refine⟨_,rfl,_,rfl,l1,_,_,j,rfl,rfl,f5,?_,?_⟩
   ·rw[xA0,zf6];show ixN (row.length+1) ((j:Nat):Int)=_;unfold ixN;rw[if_pos (by lia),if_pos (by lia)];rfl
   ·rw[<-List.map_set,zhi hj];exact⟨ybf s6 nl1,by rw[yag nrl];exact e5,yaa,_,_,rfl⟩
  ·rw[xA0,yhy G hrow];rintro σ H4 ⟨s5',e4,f4,s6',s7',rfl⟩;exact⟨_,rfl,s5',l1,_,_,_,_,_,nl1,f4,rfl⟩
 ·rw[xA0];rintro σ H2 ⟨s2,rr,s3,s4,s5,s6,s7,nrr,e2,rfl⟩;rw[xAJ]at e2;exact⟨_,rfl,q rr _ s2 nrr e2⟩
theorem zhP{z:Addr}{H:Hp}{n:Nat}{k:Int}{Q:V->Hp->Prop}(hz:H z=some (.tup [V.int 0]))(hk:k=(n:Int))(hn:n<=1000)(h:∀r H',Same H H'->H' r=some (.tup ((List.replicate n 0).map Vn))->Q (.ref r) H'):yhA K (.ref z) (.int k) H Q:=by
 subst hk;refine⟨z,_,_,rfl,rfl,SqT.of hz,by simp,by lia,by lia,by rw[xAs];simp;exact szl _ (by lia),λk1=>?_,λk1 p1 hp1=>?_⟩
 ·have e:n=1:=by lia
  subst e;exact h z H (Same.refl _) hz
 ·rw[xAs,ybH];exact h p1 _ (yab hp1 _) yaa
noncomputable def yfU(K:PySem.W.Frag):Sp:=λvs H Q _=>∃(tb fa pa la a b:Addr) (p m t c:Nat) (xs ys:List Nat),vs=[.ref tb,.ref a,.ref b]/\Tab H tb fa pa la p m t c/\H a=some (.tup (xs.map Vn))/\H b=some (.lst (ys.map Vn))/\xs.length<=100/\(∀x∈xs,x<p^m)/\(∀y∈ys,y<p^m)/\∀r H',Same H H'->H r=none->H' r=some (.tup ((addL p m xs ys).map Vn))->Q (.ref r) H'
theorem ydx:yah ["_law_table_here","_law_one","_law_other"] ["_law_table_here","_law_one","_law_other"] (zae ybd):=⟨rfl,rfl,rfl,by decide +kernel,rfl,by decide +kernel,by decide +kernel⟩
theorem yhj(B:Bl mg)(xBE:Has P w K mg base 1 "_law_plus" ["_law_table_here","_law_one","_law_other"] zdp)(F:Fun K "_law_added" "_law_added" ybd f fd):FnOk P w K mg base CX0 2 f fd ["_law_table_here","_law_one","_law_other"] (yfU K):=by
 refine F.ok ydx (λvs H Q E h=>?_) (λcdv A outer s H vs Q E hr h=>?_)
 ·obtain⟨tb,fa,pa,la,a,b,p,m,t,c,xs,ys,rfl,_⟩:=h;rfl
 obtain⟨tb,fa,pa,la,a,b,p,m,t,c,xs,ys,rfl,T,ha,hb,hl,hx,hy,q⟩:=h;refine⟨_,(yad (@yaj _ _ _ _ (zap yap rfl (B "tuple" (by decide)) zaq (zaa (@yaF _ _ _ _ _ _ _ ["_law_a","_law_b"] ["_law_table_here"] [0] _ _ _ _ (id (α:=CSc ["_law_table_here","_law_one","_law_other"] (zae ybd) ["_law_a","_law_b"] ["_law_table_here"] [0] _) ⟨by rfl,by decide +kernel,by decide +kernel,by decide +kernel,by decide +kernel,by rfl,by decide +kernel⟩) rfl (@zg0 _ _ _ _ _ _ _ _ _ rfl (B "zip" (by decide)) (zaa (pv 1) (zaa (pv 2) zac ⋯) ⋯) ⋯ ⋯) (λcl C fp s H=>(@zep _ _ _ _ 2 _ K rfl rfl (zah (@yae _ _ 0 _ (by show List.Nodup (["_law_a","_law_b","_law_table_here"]:List Str);decide +kernel) rfl (Or.inl rfl) (by trivial)) (zah (@yae _ _ 1 _ (by show List.Nodup (["_law_a","_law_b","_law_table_here"]:List Str);decide +kernel) rfl (Or.inl rfl) (by trivial)) zaE ⋯) ⋯) ⋯ ⋯)) (λ_ _ _ _ _=>zaM) (λ_ _ _ _ _=>(zad xBE hr (by decide) rfl (zaa (pv 2) (zaa (pv 0) (zaa (pv 1) zac ⋯) ⋯) ⋯) (by decide) ⋯ ⋯)) (by intro _;rfl)) zac ⋯) (by decide) (by decide) ⋯ ⋯))),?_⟩;refine⟨_,rfl,_,rfl,true,false,a,b,rfl,⟨_,SqT.of ha⟩,⟨_,SqL.of hb⟩,?_⟩;refine yav (zeP (b1:=true) (b2:=false) (xs:=xs.map Vn) (ys:=ys.map Vn)) (λk acc H'=>Same H H'/\acc=((List.range k).map λi=>add p m (xs.getD i 0) (ys.getD i 0)).map Vn) ⟨Same.refl _,rfl⟩ (λi acc H' _ h=>⟨SqT.of (h.1 _ _ ha),SqL.of (h.1 _ _ hb)⟩) ?_ ?_ ?_
 ·rintro k acc H' hk ⟨_,rfl⟩;rw[xA0,xA0]at hk;rw[xA0,xA0,xAr];exact yao (by lia)
 ·rintro k acc z H1 H2 hk ⟨s1,rfl⟩ ⟨Tt,u,v,rfl,eu,ev,hT,rfl⟩;rw[xA0,xA0]at hk;rw[zav (by lia)]at eu ev;cases eu;cases ev;refine⟨Tt,_,rfl,SqT.of yaa,rfl,_,_,rfl,_,_,rfl,rfl,?_⟩;have s2:=s1.trans (yab hT (.tup [Vn (xs.getD k 0),Vn (ys.getD k 0)]));refine⟨_,rfl,_,rfl,_,rfl,tb,fa,pa,la,p,m,t,c,xs.getD k 0,ys.getD k 0,rfl,T.same s2,yaO hx (by lia),yaO hy (by lia),?_⟩;refine⟨s2,?_⟩;rw[xBd,xAe,xAe];rfl
 ·rw[xA0,xA0];rintro acc H1 ⟨s1,rfl⟩ D hD;refine⟨D,_,rfl,.inl ⟨SqL.of yaa,λr hr=>?_⟩⟩;have s2:=s1.trans (yab hD (.lst ((addL p m xs ys).map Vn)));exact q r _ (s2.trans (yab hr _)) (s2.free hr) yaa
theorem WOk.one{p m t root n:Nat}{marks:List Nat}(G:Good p m t):WOk p m t root n marks [List.replicate n 0]:=λw hw=>by
 rw[xAA.mp hw];refine⟨by simp,λx hx=>by rw[(List.mem_replicate.mp hx).2];exact yal G.hp G.hm,λk _=>?_⟩;have:=ydJ G (x:=pw p m t root k) n 0 (row:=[]) rfl;unfold padL at this
 simpa using this
theorem WOk.more{p m t root n:Nat}{marks:List Nat}(G:Good p m t){ws:List (List Nat)}{c:Nat}{part:List Nat}(h:WOk p m t root n marks ws)(hl:part.length=n)(hp:∀x∈part,x<p^m)(hz:∀k∈marks,val p m t (pw p m t root k) part=0):WOk p m t root n marks (ws.map λw=>addL p m w (yaB p m t c part)):=λv hv=>by
 obtain⟨w,hw,rfl⟩:=xAg.mp hv;obtain⟨h1,h2,h3⟩:=h w hw;have lp:(yaB p m t c part).length=n:=by simp[yaB];exact hl
 refine⟨ycr h1 lp,yes G _ _,λk hk=>?_⟩;have hx:=zaS (t:=t) G.hp G.hm root k;rw[zeT G hx h1 lp h2 (zb3 G c part),h3 k hk,ydO G hx hp,hz k hk,mul_zero G.hp G.hm,add_zero G.hp G.hm (yal G.hp G.hm)]
theorem zcM{p m t root n:Nat}{marks:List Nat}{few:Nat}(G:Good p m t):∀k,k<=n-marks.length->WOk p m t root n marks (lwL p m t root n marks few k)
 |0,_=>WOk.one G
 |k+1,hk=>λu hu=>by
  obtain⟨c,_,h⟩:=List.mem_flatMap.mp hu;exact WOk.more G (zcM G k (by lia)) (yea (by lia)) (yg0 G (zbE G _)) (λk' hk'=>ydJ G _ _ (ycs G hk')) u h
noncomputable def ydN:Sp:=λvs H Q _=>∃(tb fa pa la wh mk:Addr) (p m t b few root n:Nat) (marks:List Nat),vs=[.ref tb,.ref wh]/\Tab H tb fa pa la p m t b/\WhAt H wh fa mk few root marks/\1<=few/\few<=6/\m%few=0/\0<root/\root<p^m/\Ord p m t root n/\n<=64/\marks.length<=n/\(p^few)^(n-marks.length)<=4096/\
 ∀r (ds:List Addr) H',Same H H'->H' r=some (.lst (ds.map V.ref))->Tups H' ds (lwL p m t root n marks few (n-marks.length))->Q (.ref r) H'
theorem yas:yah ["_law_table_here","_law_wheel_here","_law_n","_law_row","_law_some","_law_found","_law_move","_law_part","_law_more","_law_letter","_law_more_times"] ["_law_table_here","_law_wheel_here"] (zae za1):=⟨rfl,rfl,rfl,by decide +kernel,rfl,by decide +kernel,by decide +kernel⟩
theorem zfC(B:Bl mg)(xBK:Has P w K mg base 2 "_law_round" ["_law_table_here","_law_one"] ybI)(xBA:Has P w K mg base 3 "_law_maker" ["_law_table_here","_law_wheel_here"] ydQ)(xBz:Has P w K mg base 2 "_law_letters" ["_law_table_here","_law_few"] ycV)(xBN:Has P w K mg base 1 "_law_times" ["_law_table_here","_law_one","_law_other"] zbD)(xBv:Has P w K mg base 2 "_law_added" ["_law_table_here","_law_one","_law_other"] (yfU K))(F:Fun K "_law_words" "_law_words" za1 f fd):FnOk P w K mg base CX0 4 f fd ["_law_table_here","_law_wheel_here"] ydN:=by
 refine F.ok yas (λvs H Q E h=>?_) (λcdv A outer s H vs Q E hr h=>?_)
 ·obtain⟨tb,fa,pa,la,wh,mk,p,m,t,b,few,root,n,marks,rfl,_⟩:=h;rfl
 obtain⟨tb,fa,pa,la,wh,mk,p,m,t,b,few,root,n,marks,rfl,T,hW,hf1,hf6,hfm,r0,rq,ord,hn,hml,hsz,ret⟩:=h;have G:=T.good;have hp:=G.hp;have hm:=G.hm;have hQ:=G.hq;have hlets:=zf3 G hfm hf1;have hq1:1<=p^few:=xB1 (by lia);have ml:=zaV p m t root marks;refine⟨_,(zab (@ybS _ _ 2 3 _ _ _ _ _ _ _ _ _ _ _ rfl yas.nd rfl rfl (by decide) rfl rfl (zaa (zad xBK hr (by decide) rfl (zaa (pv 0) (zaa (zan zas (pv 1) yac (λ_ _=>rfl)) zac ⋯) ⋯) (by decide) ⋯ ⋯) (zaa (zad xBA hr (by decide) rfl (zaa (pv 0) (zaa (pv 1) zac ⋯) ⋯) (by decide) ⋯ ⋯) zac ⋯) ⋯) rfl ⋯) (zab (@zag _ _ 4 _ _ _ _ yas.nd rfl (Or.inl rfl) (zad xBz hr (by decide) rfl (zaa (pv 0) (zaa (zan zas (pv 1) yac (λ_ _=>rfl)) zac ⋯) ⋯) (by decide) ⋯ ⋯) ⋯ (by trivial)) (zab (@zag _ _ 5 _ _ _ _ yas.nd rfl (Or.inl rfl) (@yaA _ _ _ _ (zaa (zaf zcL (@zaP _ _ _ _ _ (zaa yac zac ⋯)) (pv 2)) zac ⋯)) ⋯ (by trivial)) (zab (@yaC _ _ _ _ _ _ _ _ xAl rfl (@yaK _ _ _ _ _ _ rfl (B "range" (by decide)) (zaa (zaf yaG (pv 2) (zal zaj rfl (B "len" (by decide)) xAT (zaa (zan zas (pv 1) yac (λ_ _=>rfl)) zac ⋯) (by decide) (by decide) ⋯ ⋯)) zac ⋯) ⋯) (@yae _ _ 6 _ yas.nd rfl (Or.inl rfl) (by trivial)) (zab (@zag _ _ 7 _ _ _ _ yas.nd rfl (Or.inl rfl) (zaf zc8 (zaf zc8 (zaf ycn (@yaA _ _ _ _ (zaa yac zac ⋯)) (pv 6)) (pv 3)) (zaf ycn (@yaA _ _ _ _ (zaa yac zac ⋯)) (zaf yaG (zaf yaG (pv 2) (pv 6)) (zal zaj rfl (B "len" (by decide)) xAT (zaa (pv 3) zac ⋯) (by decide) (by decide) ⋯ ⋯)))) ⋯ (by trivial)) (zab (@zag _ _ 8 _ _ _ _ yas.nd rfl (Or.inl rfl) (@yaA _ _ _ _ zac) ⋯ (by trivial)) (zab (@yaC _ _ _ _ _ _ _ _ xAl rfl (@yaN _ _ _ _ (pv 4)) (@yae _ _ 9 _ yas.nd rfl (Or.inr rfl) (by trivial)) (zab (@zag _ _ 10 _ _ _ _ yas.nd rfl (Or.inr rfl) (@yaF _ _ _ _ _ _ _ ["_law_thing"] ["_law_table_here","_law_letter"] [0,9] _ _ _ _ (id (α:=CSc ["_law_table_here","_law_wheel_here","_law_n","_law_row","_law_some","_law_found","_law_move","_law_part","_law_more","_law_letter","_law_more_times"] (zae za1) ["_law_thing"] ["_law_table_here","_law_letter"] [0,9] _) ⟨by rfl,by decide +kernel,by decide +kernel,by decide +kernel,by decide +kernel,by rfl,by decide +kernel⟩) rfl (@yaN _ _ _ _ (pv 7)) (λcl C fp s H=>(@yae _ _ 0 _ (by show List.Nodup (["_law_thing","_law_table_here","_law_letter"]:List Str);decide +kernel) rfl (Or.inl rfl) (by trivial))) (λ_ _ _ _ _=>zaM) (λ_ _ _ _ _=>(zad xBN hr (by decide) rfl (zaa (pv 1) (zaa (pv 2) (zaa (pv 0) zac ⋯) ⋯) ⋯) (by decide) ⋯ ⋯)) (by intro _;rfl)) ⋯ (by trivial)) (yad (@ycf _ _ _ _ (@zfi _ _ _ _ _ _ _ _ _ _ _ _ PySem.F.plainAttrs_list PySem.F.slot_list_extend PySem.F.type_list_extend zgc (pv 8) (zaa (@yaF _ _ _ _ _ _ _ ["_law_word"] ["_law_table_here","_law_more_times"] [0,10] _ _ _ _ (id (α:=CSc ["_law_table_here","_law_wheel_here","_law_n","_law_row","_law_some","_law_found","_law_move","_law_part","_law_more","_law_letter","_law_more_times"] (zae za1) ["_law_word"] ["_law_table_here","_law_more_times"] [0,10] _) ⟨by rfl,by decide +kernel,by decide +kernel,by decide +kernel,by decide +kernel,by rfl,by decide +kernel⟩) rfl (@yaN _ _ _ _ (pv 5)) (λcl C fp s H=>(@yae _ _ 0 _ (by show List.Nodup (["_law_word","_law_table_here","_law_more_times"]:List Str);decide +kernel) rfl (Or.inl rfl) (by trivial))) (λ_ _ _ _ _=>zaM) (λ_ _ _ _ _=>(zad xBv hr (by decide) rfl (zaa (pv 1) (zaa (pv 0) (zaa (pv 2) zac ⋯) ⋯) ⋯) (by decide) ⋯ ⋯)) (by intro _;rfl)) zac ⋯) ⋯ ⋯ ⋯ ⋯ ⋯) ⋯))) (by intro _;rfl)) (yad (@zag _ _ 5 _ _ _ _ yas.nd rfl (Or.inl rfl) (pv 8) ⋯ (by trivial)))))) (by intro _;rfl)) (yad (@yaj _ _ _ _ (pv 5))))))),?_⟩
 refine⟨_,rfl,_,rfl,wh,_,_,Vn root,rfl,rfl,SqT.of hW.w,rfl,tb,fa,pa,la,p,m,t,b,root,rfl,T,r0,rq,λn' o' _=>?_⟩;cases o'.uniq ord;refine⟨_,rfl,_,rfl,tb,fa,pa,la,wh,mk,p,m,t,b,few,root,marks,rfl,T,hW,rq,by lia,λmr H1 s1 _ e1=>?_⟩;refine⟨_,_,rfl,?_⟩;refine⟨_,rfl,_,rfl,wh,_,_,Vn few,rfl,rfl,SqT.of (hW.same s1).w,rfl,tb,fa,pa,la,p,m,t,b,few,rfl,T.same s1,hf6,λso H2 s2 _ e2=>?_⟩;refine⟨szl 1,λz hz=>?_⟩;refine⟨_,rfl,zhP yaa rfl (by lia) λz1 H3 s3 e3=>?_⟩;refine⟨szl 1,λfl hfl=>?_⟩;have sF:=((yab hz (.tup [V.int 0])).trans s3).trans (yab hfl (.lst [.ref z1]));have s4:=(s1.trans s2).trans sF;have eM:=sF _ _ (s2 _ _ e1);have eS:=sF _ _ e2;have eF:upd H3 fl (.lst [.ref z1]) fl=some (.lst ([z1].map V.ref)):=yaa;have eZ:Tups (upd H3 fl (.lst [.ref z1])) [z1] [List.replicate n 0]:=⟨rfl,λi d e=>by
  have:i=0:=by have:=(xAk.mp e).1;simp at this;lia
  subst this;cases e;exact⟨_,rfl,yab hfl _ _ _ e3⟩⟩
 dsimp only[yau];generalize upd H3 fl (.lst [.ref z1])=H4 at sF s4 eM eS eF eZ ⊢;clear e3 s3;have hW4:=hW.same s4;refine⟨_,rfl,_,rfl,wh,_,_,.ref mk,rfl,rfl,SqT.of hW4.w,rfl,mk,_,rfl,.inr (SqT.of hW4.k),_,_,rfl,rfl,((n-marks.length:Nat):Int),?_,by lia,by lia,?_⟩
 ·rw[xA0];show [V.int ((n:Int)-(marks.length:Int))]=_;rw[show(n:Int)-(marks.length:Int)=((n-marks.length:Nat):Int) by lia]
 refine zaR (lo:=0) (n:=((n-marks.length:Nat):Int).toNat) (λk σ H'=>Same H4 H'/\∃(fl:Addr) (ds:List Addr) (s6 s7 s8 s9 s10:Option V),H' fl=some (.lst (ds.map V.ref))/\Tups H' ds (lwL p m t root n marks few k)/\σ=[some (.ref tb),some (.ref wh),some (Vn n),some (.ref mr),some (.ref so),some (.ref fl),s6,s7,s8,s9,s10]) ⟨Same.refl _,fl,[z1],none,none,none,none,none,eF,eZ,rfl⟩ ?_ ?_
 ·rintro k σ H5 hk ⟨s5,fl,ds,s6,s7,s8,s9,s10,ef,hT,rfl⟩;rw[xAs]at hk;have hw:=zcM (root:=root) (marks:=marks) (few:=few) G k (Nat.le_of_lt hk);have hwl:(lwL p m t root n marks few k).length<=(p^few)^k:=by rw[zdK];exact Nat.pow_le_pow_left hlets k
  obtain⟨ws,ews⟩:∃ws,ws=lwL p m t root n marks few k:=⟨_,rfl⟩
  rw[<-ews]at hw hwl hT;have eM5:=s5 _ _ eM;have eS5:=s5 _ _ eS;refine⟨szl 1,λz hz=>?_⟩;have t1:=yab hz (.lst [V.int 0]);refine⟨_,rfl,z,_,_,rfl,rfl,yaa,by lia,by lia,by rw[show(0+(k:Int)).toNat=k by lia];exact szl _ (by simp;lia),λl1 hl1=>?_⟩;rw[show(0+(k:Int)).toNat=k by lia,ybH];have t2:=t1.trans (yab hl1 (.lst ((List.replicate k 0).map Vn)));have g1:upd (upd H5 z (.lst [V.int 0])) l1 (.lst ((List.replicate k 0).map Vn)) l1=some (.lst ((List.replicate k 0).map Vn)):=yaa;generalize upd (upd H5 z (.lst [V.int 0])) l1 (.lst ((List.replicate k 0).map Vn))=H6 at t2 g1 ⊢;refine⟨_,rfl,l1,mr,_,_,rfl,rfl,g1,t2 _ _ eM5,by rw[xA0,xA0,xAq,ml];exact szl _ (by lia),λl2 hl2=>?_⟩;rw[<-xAe];have t3:=t2.trans (yab hl2 (.lst ((List.replicate k 0++mkL p m t root marks).map Vn)));have g2:upd H6 l2 (.lst ((List.replicate k 0++mkL p m t root marks).map Vn)) l2=some (.lst ((List.replicate k 0++mkL p m t root marks).map Vn)):=yaa;generalize upd H6 l2 (.lst ((List.replicate k 0++mkL p m t root marks).map Vn))=H7 at t3 g2 ⊢;refine⟨szl 1,λz2 hz2=>?_⟩;have t4:=yab hz2 (.lst [V.int 0]);refine⟨_,rfl,_,rfl,_,_,rfl,rfl,_,rfl,mr,_,rfl,.inl (SqL.of (t4 _ _ (t3 _ _ eM5))),_,_,rfl,rfl,?_⟩;have ec:((n:Int)-(0+(k:Int))-(((mkL p m t root marks).map Vn).length:Int))=((n-k-(marks.length+1):Nat):Int):=by rw[xA0,ml];lia
  refine⟨z2,_,_,rfl,rfl,yaa,?_⟩;rw[ec];refine⟨by lia,by lia,by rw[xAs];exact szl _ (by simp;lia),λl3 hl3=>?_⟩;rw[xAs,ybH];have t5:=t4.trans (yab hl3 (.lst ((List.replicate (n-k-(marks.length+1)) 0).map Vn)));have g3:upd (upd H7 z2 (.lst [V.int 0])) l3 (.lst ((List.replicate (n-k-(marks.length+1)) 0).map Vn)) l3=some (.lst ((List.replicate (n-k-(marks.length+1)) 0).map Vn)):=yaa;generalize upd (upd H7 z2 (.lst [V.int 0])) l3 (.lst ((List.replicate (n-k-(marks.length+1)) 0).map Vn))=H8 at t5 g3 ⊢;refine⟨l2,l3,_,_,rfl,rfl,t5 _ _ g2,g3,by simp only[xA0,xAt,xAq,ml];exact szl _ (by lia),λpt hpt=>?_⟩;rw[<-xAe];have t6:=(t3.trans t5).trans (yab hpt (.lst ((mvL p m t root n marks k).map Vn)));have ePt:upd H8 pt (.lst ((mvL p m t root n marks k).map Vn)) pt=some (.lst ((mvL p m t root n marks k).map Vn)):=yaa;dsimp only[yau];change tSeq _ _ _ _ (upd H8 pt (.lst ((mvL p m t root n marks k).map Vn)));generalize upd H8 pt (.lst ((mvL p m t root n marks k).map Vn))=H9 at t6 ePt ⊢;have s9':=s5.trans t6;have hT9:=hT.same t6;have ef9:=t6 _ _ ef;have eS9:=t6 _ _ eS5;have lpt:=yea (p:=p) (m:=m) (t:=t) (root:=root) (marks:=marks) hk;have hpt':∀x∈mvL p m t root n marks k,x<p^m:=yg0 G (zbE G _);have hpz:∀k'∈marks,val p m t (pw p m t root k') (mvL p m t root n marks k)=0:=λk' hk'=>ydJ G _ _ (ycs G hk')
  clear t1 t2 t3 t4 t5 t6 g1 g2 g3;have hwl2:ws.length<=4096:=xAB hwl (xAB (xAI hq1 (by lia)) hsz);have hnext:(p^few)^(k+1)<=4096:=xAB (xAI hq1 (by lia)) hsz;have hmore:∀j,j<=(lets p m t few).length->j*ws.length<=(p^few)^(k+1):=λj hj=>by
   rw[xAD,xBb];exact Nat.mul_le_mul hwl (xAB hj hlets)
  refine⟨szl 0,λmo hmo=>?_⟩;have sm:=yab hmo (.lst []);dsimp only[yau];refine⟨_,rfl,so,rfl,⟨_,SqL.of (sm _ _ eS9)⟩,?_⟩;refine ydD (xs:=(lets p m t few).map Vn) (λj σ H'=>Same H9 H'/\∃(es:List Addr) (s9 s10:Option V),H' mo=some (.lst (es.map V.ref))/\Tups H' es (((lets p m t few).take j).flatMap λc=>ws.map λu=>addL p m u (yaB p m t c (mvL p m t root n marks k)))/\σ=[some (.ref tb),some (.ref wh),some (Vn n),some (.ref mr),some (.ref so),some (.ref fl),some (.int (0+(k:Int))),some (.ref pt),some (.ref mo),s9,s10]) ⟨sm,[],_,_,yaa,⟨rfl,λi d e=>by simp at e⟩,rfl⟩ (λi σ H' _ h=>SqL.of (h.1 _ _ eS9)) ?_ ?_
  ·rintro j x σ H10 hx ⟨s10',es,s9x,s10x,em,hTv,rfl⟩;obtain⟨c,ec',rfl⟩:∃c,(lets p m t few)[j]?=some c/\x=Vn c:=by
    rw[xA8]at hx;cases e:(lets p m t few)[j]? with
    |none=>rw[e]at hx;cases hx
    |some a=>rw[e]at hx;cases hx;exact⟨a,rfl,rfl⟩
   have hj:j<(lets p m t few).length:=(xAk.mp ec').1;have hc:=ya3 c (xBc ec');have T10:=T.same (s4.trans (s9'.trans s10'));have ePt10:=s10' _ _ ePt;refine⟨_,rfl,pt,rfl,⟨_,SqL.of ePt10⟩,?_⟩;refine yav (yaE (xs:=(mvL p m t root n marks k).map Vn)) (λi acc H'=>H'=H10/\acc=((List.range i).map λi=>mul p m t c ((mvL p m t root n marks k).getD i 0)).map Vn) ⟨rfl,rfl⟩ (λi acc H' _ h=>by rw[h.1];exact SqL.of ePt10) ?_ ?_ ?_
   ·rintro i acc H' hi ⟨_,rfl⟩;rw[xA0,lpt]at hi;rw[xA0,xA0,xAr];exact yao (by lia)
   ·rintro i acc z H11 H12 hi ⟨rfl,rfl⟩ ⟨rfl,ez⟩;rw[xA0]at hi;rw[zav hi]at ez;cases ez;refine⟨_,rfl,_,rfl,_,rfl,tb,fa,pa,la,p,m,t,b,c,(mvL p m t root n marks k).getD i 0,rfl,T10,hc,yaO hpt' hi,?_⟩;refine⟨rfl,?_⟩;rw[xBd,xAe,xAe];rfl
   rw[xA0];rintro acc H11 ⟨rfl,rfl⟩ D hD;have sD:=yab hD (.lst ((yaB p m t c (mvL p m t root n marks k)).map Vn));have eD:upd H11 D (.lst ((yaB p m t c (mvL p m t root n marks k)).map Vn)) D=some (.lst ((yaB p m t c (mvL p m t root n marks k)).map Vn)):=yaa;dsimp only[yau];change yhL _ _ _ (upd H11 D (.lst ((yaB p m t c (mvL p m t root n marks k)).map Vn)));generalize upd H11 D (.lst ((yaB p m t c (mvL p m t root n marks k)).map Vn))=H12 at sD eD ⊢;have em12:=sD _ _ em;have hT12:=hT9.same (s10'.trans sD);have ef12:=sD _ _ (s10' _ _ ef9);have T12:=T10.same sD;refine⟨_,rfl,.inl ⟨rfl,_,SqL.of em12⟩,?_⟩;refine⟨_,rfl,fl,rfl,⟨_,SqL.of ef12⟩,?_⟩;refine yav (yaE (xs:=ds.map V.ref)) (λi acc H'=>Same H12 H'/\∃gs:List Addr,acc=gs.map V.ref/\Tups H' gs ((ws.take i).map λu=>addL p m u (yaB p m t c (mvL p m t root n marks k)))) ⟨Same.refl _,[],rfl,⟨rfl,λi d e=>by simp at e⟩⟩ (λi acc H' _ h=>SqL.of (h.1 _ _ ef12)) ?_ ?_ ?_
   ·rintro i acc H' hi ⟨_,gs,rfl,hG⟩;have:=hG.1;rw[xA0,xAC]at this;rw[xA0];exact szl _ (show gs.length+1<=100000 by lia)
   ·rintro i acc z H13 H14 hi ⟨s13,gs,rfl,hG⟩ ⟨rfl,ez⟩;obtain⟨d,ed,rfl⟩:=zdF ez;obtain⟨u,eu,hu⟩:=hT12.2 i d ed;have hwu:=hw u (xBc eu);refine⟨_,rfl,_,rfl,_,rfl,tb,fa,pa,la,d,D,p,m,t,b,u,yaB p m t c (mvL p m t root n marks k),rfl,T12.same s13,s13 _ _ hu,s13 _ _ eD,by lia,hwu.2.1,zb3 G _ _,λr H15 s15 _ e15=>?_⟩;refine⟨s13.trans s15,gs++[r],by simp,?_⟩;rw[ybm eu,xAe];exact(hG.same s15).snoc e15
   rw[xA0,hT.1,xAJ];rintro acc H13 ⟨s13,gs,rfl,hG⟩ D2 hD2;have sD2:=yab hD2 (.lst (gs.map V.ref));have em13:=sD2 _ _ (s13 _ _ em12);have hgl:=hG.1;rw[xA0]at hgl;have hvl:=hTv.1;rw[zdA,xAC,Nat.min_eq_left (Nat.le_of_lt hj)]at hvl;have hvl2:=hmore (j+1) (by lia);rw[Nat.add_mul,Nat.one_mul]at hvl2;refine⟨mo,D2,_,_,rfl,rfl,em13,yaa,by rw[xA0,xA0,hvl,hgl];exact szl _ (by lia),?_⟩;rw[<-xAe];refine⟨ybf (s10'.trans (sD.trans (s13.trans sD2))) hmo,es++gs,_,_,yaa,?_,rfl⟩;rw[ybm ec',List.flatMap_append,List.flatMap_singleton];exact Tups.at (((hTv.same sD).same (s13.trans sD2)).app (hG.same sD2)) em13
  ·rw[xA0];rintro σ H10 ⟨s10',es,s9x,s10x,em,hTv,rfl⟩;rw[xAJ,ews]at hTv;exact⟨_,rfl,s9'.trans s10',mo,es,_,_,_,_,_,em,hTv,rfl⟩
 ·rw[xAs];rintro σ H5 ⟨s5,fl,ds,s6,s7,s8,s9,s10,ef,hT,rfl⟩;exact⟨_,rfl,ret fl ds _ (s4.trans s5) ef hT⟩
theorem yez:∀(n:Nat) (l:List Nat),l.Nodup->(∀x∈l,x<n)->l.length<=n
 |0,[],_,_=>xA4 _
 |0,x::_,_,h=>absurd (h x xAb) (by lia)
 |n+1,l,hd,h=>by
  have h1:=yez n (l.erase n) (hd.erase n) λx hx=>by
   have:=(hd.mem_erase_iff).mp hx;have:=h x this.2;lia
  have:=List.length_erase_of_mem (a:=n) (l:=l);by_cases c:n∈l
  ·rw[this c]at h1;lia
  ·rw[List.erase_of_not_mem c]at h1;lia
theorem yfi{ns':List Int}{xs:List Nat}(h:ns'.Perm (xs.map λn:Nat=>(n:Int)))(ha:ns'.Pairwise (·<=·))(hd:xs.Nodup):∃ms:List Nat,ns'.map V.int=ms.map Vn/\ms.Pairwise (· < ·)/\∀x,x∈ms↔x∈xs:=by
 have hmem:∀i∈ns',∃n∈xs,(n:Int)=i:=λi hi=>xAg.mp (h.mem_iff.mp hi)
 have hn:ns'.Nodup:=h.nodup_iff.mpr (by
  rw[List.Nodup,List.pairwise_map];exact hd.imp λhne e=>hne (Int.ofNat.inj e))
 refine⟨ns'.map Int.toNat,?_,?_,λx=>?_⟩
 ·rw[List.map_map];refine xAy λi hi=>?_
  obtain⟨n,_,rfl⟩:=hmem i hi;rfl
 ·rw[List.pairwise_map];refine List.Pairwise.imp_of_mem ?_ (ha.and hn);intro a b h1 h2 h3;obtain⟨n1,_,rfl⟩:=hmem a h1;obtain⟨n2,_,rfl⟩:=hmem b h2;have:=h3.1;have h4:=h3.2;rw[xAs,xAs];have:n1≠n2:=λe=>h4 (by rw[e])
  lia
 ·rw[xAg];constructor
  ·rintro⟨i,hi,rfl⟩;obtain⟨n,hn',rfl⟩:=hmem i hi;exact hn'
  ·intro hx;exact⟨(x:Int),h.mem_iff.mpr (xAg.mpr ⟨x,hx,rfl⟩),rfl⟩
theorem ze7{n q:Nat}{ms:List Nat}(hl:∀x∈ms,x<n)(h:∀x∈ms,x*q%n∈ms){x:Nat}(hx:x∈ms)(c:Nat):x*q^c%n∈ms:=by
 induction c with
 |zero=>rw[Nat.pow_zero,Nat.mul_one,Nat.mod_eq_of_lt (hl x hx)];exact hx
 |succ c ih=>
  have:=h _ ih;rw[Nat.mod_mul_mod,Nat.mul_assoc,<-xAD]at this;exact this
noncomputable def zd1:Sp:=λvs H Q _=>∃(pu g:Addr) (most L:Nat),vs=[.ref pu,Vn most,Vn L]/\Pu H pu g/\1<=most/\1<=L/\
 ∀(r tb fa pa la wh mk:Addr) (p m t b few root n:Nat) (marks:List Nat) H',H' r=some (.tup [.ref tb,.ref wh])->Tab H' tb fa pa la p m t b->ygx pu g tb fa pa la->WhAt H' wh fa mk few root marks->(wh≠pu/\wh≠g)->(mk≠pu/\mk≠g)->Whl p m t few root n marks->(p^few)^(n-marks.length)<=L->Pu H' pu g->yar pu g H H'->Q (.ref r) H'
theorem yan:yah ["_law_purse_here","_law_most","_law_listed","_law_table_here","_law_wheel_here","_law_n","_law_q","_law_marks","_law_spot","_law_turn","_law_mark"] ["_law_purse_here","_law_most","_law_listed"] (zae yaS):=⟨rfl,rfl,rfl,by decide +kernel,rfl,by decide +kernel,by decide +kernel⟩
theorem yfB(B:Bl mg)(xBO:Has P w K mg base 5 "_law_wheel" ["_law_purse_here","_law_most"] zdM)(xBK:Has P w K mg base 2 "_law_round" ["_law_table_here","_law_one"] ybI)(xBI:Has P w K mg base 1 "_law_raised" ["_law_one","_law_many"] zam)(xBD:Has P w K mg base 1 "_law_pick" ["_law_purse_here","_law_many"] ycO)(xBJ:Has P w K mg base 1 "_law_ring" ["_law_i","_law_n","_law_q"] zcw)(F:Fun K "_law_small_wheel" "_law_small_wheel" yaS f fd):FnOk P w K mg base CX0 6 f fd ["_law_purse_here","_law_most","_law_listed"] zd1:=by
 refine F.ok yan (λvs H Q E h=>?_) (λcdv A outer s H vs Q E hr h=>?_)
 ·obtain⟨pu,g,most,L,rfl,_⟩:=h;rfl
 obtain⟨pu,g,most,L,rfl,hP,hmost,hL1,ret⟩:=h;refine⟨_,(zab (@yaU _ _ _ _ _ _ (zad xBO hr (by decide) rfl (zaa (pv 0) (zaa (pv 1) zac ⋯) ⋯) (by decide) ⋯ ⋯) (@za2 _ _ _ _ _ _ rfl (zah (@yae _ _ 3 _ yan.nd rfl (Or.inl rfl) (by trivial)) (zah (@yae _ _ 4 _ yan.nd rfl (Or.inl rfl) (by trivial)) zaE ⋯) ⋯) ⋯ ⋯) ⋯ ⋯ ⋯) (zab (@ybS _ _ 5 6 _ _ _ _ _ _ _ _ _ _ _ rfl yan.nd rfl rfl (by decide) rfl rfl (zaa (zad xBK hr (by decide) rfl (zaa (pv 3) (zaa (zan zas (pv 4) yac (λ_ _=>rfl)) zac ⋯) ⋯) (by decide) ⋯ ⋯) (zaa (zad xBI hr (by decide) rfl (zaa (@zaB _ _ _ _ _ _ (zbq hr) (pv 3) zaH (λ_ _=>rfl)) (zaa (zan zas (pv 4) yac (λ_ _=>rfl)) zac ⋯) ⋯) (by decide) ⋯ ⋯) zac ⋯) ⋯) rfl ⋯) (zab (@ybS _ _ 7 8 _ _ _ _ _ _ _ _ _ _ _ rfl yan.nd rfl rfl (by decide) rfl rfl (zaa (zap zbF rfl (B "list" (by decide)) za0 (zaa (zan zas (pv 4) yac (λ_ _=>rfl)) zac ⋯) (by decide) (by decide) ⋯ ⋯) (zaa (zad xBD hr (by decide) rfl (zaa (pv 0) (zaa (pv 5) zac ⋯) ⋯) (by decide) ⋯ ⋯) zac ⋯) ⋯) rfl ⋯) (zab (@yaC _ _ _ _ _ _ _ _ xAl rfl (@yaK _ _ _ _ _ _ rfl (B "range" (by decide)) (zaa (pv 5) zac ⋯) ⋯) (@yae _ _ 9 _ yan.nd rfl (Or.inl rfl) (by trivial)) (zab (@zag _ _ 10 _ _ _ _ yan.nd rfl (Or.inl rfl) (zaf yaz (zaf zau (pv 8) (pv 9)) (pv 5)) ⋯ (by trivial)) (yad (@za3 _ _ _ _ _ _ _ _ (@PW.pt _ _ _ (@ygg _ _ _ _ _ _ _ (@zai _ _ _ _ _ _ _ _ ybU (zad xBI hr (by decide) rfl (zaa (pv 6) (zaa (zaf yaG (pv 5) (zal zaj rfl (B "len" (by decide)) xAT (zaa (pv 7) zac ⋯) (by decide) (by decide) ⋯ ⋯)) zac ⋯) ⋯) (by decide) ⋯ ⋯) (pv 2) (yak _)) (@yek _ _ _ _ (@zai _ _ _ _ _ _ _ _ ydP (pv 10) (pv 7) (by with_unfolding_all rfl))))) (yad (@zag _ _ 7 _ _ _ _ yan.nd rfl (Or.inl rfl) (zaf zc8 (pv 7) (zad xBJ hr (by decide) rfl (zaa (pv 10) (zaa (pv 5) (zaa (pv 6) zac ⋯) ⋯) ⋯) (by decide) ⋯ ⋯)) ⋯ (by trivial))) zaw))) (by intro _;rfl)) (yad (@yaj _ _ _ _ (@zaP _ _ _ _ _ (zaa (pv 3) (zaa (zaf ycP (@zcs _ _ _ _ _ _ _ _ _ _ ygV (pv 4) zdr (@zdn _ _ _ yac)) (@zaP _ _ _ _ _ (zaa (zap yap rfl (B "tuple" (by decide)) zaq (zaa (zal zeB rfl (B "sorted" (by decide)) ybi (zaa (pv 7) zac ⋯) (by decide) (by decide) ⋯ ⋯) zac ⋯) (by decide) (by decide) ⋯ ⋯) zac ⋯))) zac ⋯) ⋯)))))))),?_⟩;refine⟨_,rfl,_,rfl,pu,g,most,rfl,hP,hmost,λr tb fa pa la wh mk p m t b few root n marks H4 er T ap hW nwh nmk nr W hn hP4 sx4=>?_⟩;refine⟨r,_,rfl,SqT.of er,rfl,_,_,rfl,_,_,rfl,rfl,?_⟩;have G:=T.good;have hp:=G.hp;have hm:=G.hm;have hQ:=G.hq;have hnq:=W.nq;have hn0:=W.ord.pos;have hm6:=m_le hp hQ;have hp2:=p_le hp hm hQ;have hfm:few<=m:=Nat.le_of_dvd (by lia) (xBj W.fewm);have hf1:=W.few1;have he1:1<=m/few:=Nat.div_pos hfm (by lia);have he2:m/few<=6:=xAB (Nat.div_le_self _ _) hm6;have hqq:p^few<=64:=xAB (xAI (by lia) hfm) hQ;have hq1:1<=p^few:=xB1 (by lia);have hrnd:=W.ord.round G W.r0 W.rq W.fewm hf1;refine⟨_,rfl,_,rfl,wh,_,_,Vn root,rfl,rfl,SqT.of hW.w,rfl,tb,fa,pa,la,p,m,t,b,root,rfl,T,W.r0,W.rq,λn' o' _=>?_⟩
 cases o'.uniq W.ord;refine⟨_,rfl,tb,_,rfl,T.get zf8,_,rfl,wh,_,_,Vn few,rfl,rfl,SqT.of hW.w,rfl,p,few,rfl,hp2,by lia,?_⟩;refine⟨_,_,rfl,?_⟩;refine⟨_,rfl,wh,_,_,.ref mk,rfl,rfl,SqT.of hW.w,rfl,mk,_,rfl,.inr (SqT.of hW.k),λl0 hl0=>?_⟩;have sl:=yab hl0 (.lst (marks.map Vn));have nl0:=hP4.lt hl0;refine⟨_,rfl,_,rfl,pu,g,n,rfl,hP4.same sl,by lia,by lia,λspot H5 hspot hP5 sx5=>?_⟩;refine⟨_,_,rfl,?_⟩;have sx45:yar pu g H4 H5:=(Same.x sl).trans sx5;have T5:=T.x ap sx45;have hW5:=hW.x nwh nmk sx45;have e5:H5 l0=some (.lst (marks.map Vn)):=sx5 _ _ nl0.1 nl0.2 yaa;dsimp only[yau];refine za9 (λσ H'=>Pu H' pu g/\yar pu g H5 H'/\∃(ml:Addr) (ms:List Nat) (s9 s10:Option V),H' ml=some (.lst (ms.map Vn))/\ms.Nodup/\(∀x∈ms,x<n)/\(∀x∈ms,x*p^few%n∈ms)/\(p^few)^(n-ms.length)<=L/\σ=[some (.ref pu),some (Vn most),some (Vn L),some (.ref tb),some (.ref wh),some (Vn n),some (Vn (p^few)),some (.ref ml),some (Vn spot),s9,s10]) ?_ ?_
 ·rintro σ H6 ⟨hP6,sx6,ml,ms,s9,s10,e6,hnd,hlt,hcl,hsz,rfl⟩;have T6:=T5.x ap sx6;have hW6:=hW5.x nwh nmk sx6;have hlen:=yez n ms hnd hlt;refine⟨_,rfl,_,rfl,_,rfl,wh,_,rfl,SqT.of hW6.w,by rintro⟨_,h⟩;exact absurd (show HT.sIx 4 4 (some 3)=4 from h) (by decide),λw1 hw1=>?_⟩;have t1:=yab hw1 (.tup [.ref fa,Vn few,Vn root]);refine⟨_,rfl,ml,(ms.map λn:Nat=>(n:Int)),rfl,SqL.of (by rw[mapI];exact t1 _ _ e6),by rw[xA0];lia,λl2 ns' hl2 perm asc=>?_⟩;obtain⟨ms2,ems,hasc,hmm⟩:=yfi perm asc hnd;have hlen2:ms2.length=ms.length:=by
   have:=congrArg List.length ems;rw[xA0,xA0,perm.length_eq,xA0]at this;exact this.symm
  rw[ems];have t2:=t1.trans (yab hl2 (.lst (ms2.map Vn)));refine⟨l2,_,rfl,.inl ⟨SqL.of yaa,λk1 hk1=>?_⟩⟩;have t3:=yab hk1 (.tup (ms2.map Vn));refine⟨szl 1,λw2 hw2=>?_⟩;have t4:=yab hw2 (.tup [.ref k1]);refine⟨w1,w2,[.ref fa,Vn few,Vn root],[.ref k1],rfl,rfl,SqT.of (t4 _ _ (t3 _ _ (yab hl2 _ _ _ yaa))),SqT.of yaa,szl 4,λh=>absurd h (by simp),λ_ h=>absurd h (by simp),λ_ _ w3 hw3=>?_⟩;have t5:=yab hw3 (.tup [.ref fa,Vn few,Vn root,.ref k1]);refine⟨szl 2,λr3 hr3=>?_⟩;have t6:=yab hr3 (.tup [.ref tb,.ref w3]);have hP7:=(hP6.same t2)
  have hP8:=(hP7.same t3).same t4;refine ret r3 tb fa pa la w3 k1 p m t b few root n ms2 _ yaa (((((T6.same t2).same t3).same t4).same t5).same t6) ap ⟨t6 _ _ yaa,t6 _ _ (t5 _ _ (t4 _ _ yaa))⟩ (hP8.lt hw3) (hP7.lt hk1) ⟨W.few1,W.fewm,W.r0,W.rq,W.ord,W.nq,hasc,λx hx=>hlt x ((hmm x).mp hx),λx hx=>(hmm _).mpr (hcl x ((hmm x).mp hx))⟩ (by rw[hlen2];exact hsz) ((hP8.same t5).same t6) ?_;exact((sx4.trans sx45).trans sx6).trans (Same.x (t2.trans (t3.trans (t4.trans (t5.trans t6)))))
 ·intro D' _ _ _ hD;refine⟨_,rfl,(n:Int),rfl,by lia,by lia,?_⟩;refine zaR (lo:=0) (n:=(n:Int).toNat) (λi σ H'=>Pu H' pu g/\yar pu g H5 H'/\∃(ml:Addr) (ms:List Nat) (s9 s10:Option V),H' ml=some (.lst (ms.map Vn))/\(ml≠pu/\ml≠g)/\ms.Nodup/\(∀x∈ms,x<n)/\(∀x∈ms,x*p^few%n∈ms)/\((p^few)^(n-ms.length)<=L\/∀j,j<i->(spot+j)%n∈ms)/\σ=[some (.ref pu),some (Vn most),some (Vn L),some (.ref tb),some (.ref wh),some (Vn n),some (Vn (p^few)),some (.ref ml),some (Vn spot),s9,s10]) ⟨hP5,yar.refl,l0,marks,none,none,e5,nl0,W.asc.imp λh=>by lia,W.lt,W.closed,.inr λj hj=>absurd hj (by lia),rfl⟩ ?_ ?_
  ·rintro i σ H6 hi ⟨hP6,sx6,ml,ms,s9,s10,e6,nml,hnd,hlt,hcl,hor,rfl⟩;rw[xAs]at hi;have hlen:=yez n ms hnd hlt;have em:V.int (((spot:Int)+(0+(i:Int)))%(n:Int))=Vn ((spot+i)%n):=by rw[Int.zero_add];rfl
   refine⟨_,rfl,_,rfl,_,_,rfl,rfl,_,rfl,_,_,rfl,rfl,by show(0:Int)<n;lia,?_⟩;dsimp only[yau];rw[em];have hmk:(spot+i)%n<n:=xAR _ hn0;refine⟨_,rfl,_,rfl,_,rfl,ml,_,rfl,.inl (SqL.of e6),_,_,rfl,rfl,p^few,n-ms.length,?_,hqq,by lia,_,rfl,_,_,rfl,rfl,_,rfl,?_⟩
   ·rw[xA0];show [Vn (p^few),V.int ((n:Int)-(ms.length:Int))]=_;rw[show(n:Int)-(ms.length:Int)=((n-ms.length:Nat):Int) by lia]
   refine ite2 (λc=>?_) (λc=>?_)
   ·have c':L<(p^few)^(n-ms.length):=by
     have:=xAj c;exact Int.ofNat_lt.mp this
    have hor:∀j,j<i->(spot+j)%n∈ms:=by
     rcases hor with h|h
     ·lia
     ·exact h
    refine⟨_,rfl,_,rfl,ml,_,rfl,.inl (SqL.of e6),rfl,zfg ms,_,rfl,?_⟩;rw[zfN];refine ite2 (λd=>?_) (λd=>?_)
    ·have d':(spot+i)%n∉ms:=λh=>by rw[xAG h]at d;exact absurd d (by decide)
     refine⟨_,rfl,_,rfl,_,rfl,_,rfl,(spot+i)%n,n,p^few,m/few,rfl,by lia,by lia,hqq,he1,he2,hrnd,λrg rs H7 s7 nrg erg h1 h2 h3 h4 h5 h6 h7=>?_⟩;refine⟨ml,rg,_,_,rfl,rfl,s7 _ _ e6,erg,by rw[xA0,xA0];exact szl _ (by lia),λl2 hl2=>?_⟩;rw[<-xAe];have s8:=s7.trans (yab hl2 (.lst ((ms++rs).map Vn)));refine⟨hP6.same s8,sx6.trans (Same.x s8),l2,ms++rs,_,_,yaa,(hP6.same s7).lt hl2,List.nodup_append.mpr ⟨hnd,h5,λx hx y hy exy=>?_⟩,λx hx=>?_,λx hx=>?_,.inr λj hj=>?_,rfl⟩
     ·subst exy;obtain⟨a',ea⟩:=h6 x hy;refine d' ?_;have:=ze7 hlt hcl hx (m/few*a'-a');rw[ea,Nat.mod_mul_mod,ycJ hrnd he1,Nat.mod_mod]at this;exact this
     ·rcases xAE.mp hx with h|h
      ·exact hlt x h
      ·exact h3 x h
     ·rcases xAE.mp hx with h|h
      ·exact xAK _ (hcl x h)
      ·exact xAc _ (h4 x h)
     ·rcases xAS j i with h|h
      ·exact xAK _ (hor j h)
      ·rw[show j=i by lia];have:=h7 0;rw[Nat.pow_zero,Nat.mul_one,Nat.mod_mod]at this;exact xAc _ this
    ·have d':(spot+i)%n∈ms:=Classical.byContradiction λh=>d (by rw[xBt h];rfl)
     refine⟨hP6,sx6,ml,ms,_,_,e6,nml,hnd,hlt,hcl,.inr λj hj=>?_,rfl⟩;rcases xAS j i with h|h
     ·exact hor j h
     ·rw[show j=i by lia];exact d'
   ·have c':(p^few)^(n-ms.length)<=L:=by
     rcases xAS L ((p^few)^(n-ms.length)) with h|h
     ·exact absurd (xAG (Int.ofNat_lt.mpr h)) c
     ·exact h
    refine ite2 (λd=>absurd d (by decide)) (λ_=>?_);exact⟨hP6,sx6,ml,ms,_,_,e6,nml,hnd,hlt,hcl,.inl c',rfl⟩
  ·rw[xAs];rintro σ H6 ⟨hP6,sx6,ml,ms,s9,s10,e6,nml,hnd,hlt,hcl,hor,rfl⟩;refine hD _ _ ⟨hP6,sx6,ml,ms,_,_,e6,hnd,hlt,hcl,?_,rfl⟩;rcases hor with h|h
   ·exact h
   ·have hall:∀x∈List.range n,x∈ms:=λx hx=>by
     have hx:=xAw.mp hx;by_cases c:spot<=x
     ·have:=h (x-spot) (by lia);rw[show spot+(x-spot)=x by lia,Nat.mod_eq_of_lt hx]at this;exact this
     ·have:=h (x+n-spot) (by lia);rw[show spot+(x+n-spot)=x+n by lia,Nat.add_mod_right,Nat.mod_eq_of_lt hx]at this;exact this
    have:=zdo (List.nodup_range) hall;rw[xAr]at this;rw[show n-ms.length=0 by lia,Nat.pow_zero];exact hL1
end
end My
end
section
-- text: Q31m
namespace My
open PySem L2 Dg
theorem zhI{α β:Type}{f g:α->List β}:∀ {l:List α},(∀a∈l,f a=g a)->l.flatMap f=l.flatMap g
 | [],_=>rfl
 |a::l,h=>by rw[List.flatMap_cons,List.flatMap_cons,h a (xAb ..),zhI λb hb=>h b (xA7 _ hb)]
theorem zfA{α:Type}[DecidableEq α]:∀ {l s:List α},l.Nodup->(∀x∈l,x∈s)->s.length<=l.length->l.Perm s
 | [],s,_,_,h=>by rw[List.length_eq_zero_iff.mp (Nat.le_zero.mp h)]
 |x::l,s,hd,hs,hl=>by
  have hd':=xBe.mp hd;have hx:=hs x (xAb ..);have h1:=List.perm_cons_erase hx;refine List.Perm.trans (List.Perm.cons x (zfA hd'.2 (λy hy=>?_) ?_)) h1.symm
  ·exact(List.mem_erase_of_ne (λe=>hd'.1 (by rw[<-e];exact hy))).mpr (hs y (xA7 _ hy))
  ·rw[List.length_erase_of_mem hx];rw[xAO]at hl;lia
theorem yfK{α:Type}{f:Nat->α->α}{ws:List α}(hw:ws.Nodup):∀ {cs:List Nat},cs.Nodup->(∀c∈cs,∀c'∈cs,∀u∈ws,∀v∈ws,f c u=f c' v->c=c'/\u=v)->(cs.flatMap λc=>ws.map (f c)).Nodup
 | [],_,_=>List.nodup_nil
 |c::cs,hc,h=>by
  have hc':=xBe.mp hc;rw[List.flatMap_cons,List.nodup_append];refine⟨?_,yfK hw hc'.2 λa ha b hb=>h a (xA7 _ ha) b (xA7 _ hb),λx hx y hy e=>?_⟩
  ·rw[List.Nodup,List.pairwise_map];exact List.Pairwise.imp_of_mem (λ{u v} hu hv ne e=>ne (h c (xAb ..) c (xAb ..) u hu v hv e).2) hw
  ·obtain⟨u,hu,rfl⟩:=xAg.mp hx;obtain⟨c',hc2,h2⟩:=List.mem_flatMap.mp hy;obtain⟨v,hv,rfl⟩:=xAg.mp h2;have:=(h c (xAb ..) c' (xA7 _ hc2) u hu v hv e).1;rw[this]at hc';exact hc'.1 hc2
noncomputable def allK(cs:List Nat):Nat->List (List Nat)
 |0=>[[]]
 |k+1=>(allK cs k).flatMap λv=>cs.map λc=>v++[c]
theorem zeO(cs:List Nat):∀k,(allK cs k).length=cs.length^k
 |0=>rfl
 |k+1=>by
  show(List.flatMap _ _).length=_;rw[List.length_flatMap,show(List.map (λv=>(cs.map λc=>v++[c]).length) (allK cs k))=(allK cs k).map λ_=>cs.length from xAy λ_ _=>xA0 _];rw[List.map_const',List.sum_replicate_nat,zeO cs k,xAD]
theorem ye2(cs:List Nat):∀ {k:Nat} {v:List Nat},v∈allK cs k->v.length=k/\∀x∈v,x∈cs
 |0,v,h=>by cases xAA.mp h;exact⟨rfl,λx hx=>nomatch hx⟩
 |k+1,v,h=>by
  obtain⟨u,hu,h2⟩:=List.mem_flatMap.mp h;obtain⟨c,hc,rfl⟩:=xAg.mp h2;obtain⟨h3,h4⟩:=ye2 cs hu;refine⟨by rw[xAt,h3];rfl,λx hx=>?_⟩;rcases xAE.mp hx with hx|hx
  ·exact h4 x hx
  ·rw[xAA.mp hx];exact hc
theorem ye1(cs:List Nat):∀ {k:Nat} {v:List Nat},v.length=k->(∀x∈v,x∈cs)->v∈allK cs k
 |0,v,h,_=>by rw[List.length_eq_zero_iff.mp h];exact xAA.mpr rfl
 |k+1,v,h,hx=>by
  rcases List.eq_nil_or_concat v with rfl |⟨u,c,rfl⟩
  ·cases h
  ·rw[List.concat_eq_append]at h hx ⊢;rw[xAt,List.length_singleton]at h;exact List.mem_flatMap.mpr ⟨u,ye1 cs (by lia) λx hx'=>hx x (xAK _ hx'),xAg.mpr ⟨c,hx c (xAc _ (xAA.mpr rfl)),rfl⟩⟩
theorem ycN(p m t c:Nat)(xs:List Nat):yaB p m t c xs=xs.map (mul p m t c):=by
 unfold yaB;exact xAP (by simp) λi h1 h2=>by simp[List.getD,show i<xs.length by simpa using h2]
theorem zdy(p m:Nat)(xs ys:List Nat):sums p m xs ys=List.zipWith (add p m) xs ys:=by
 unfold sums;refine xAP (by simp) λi h1 h2=>?_
 have h3:i<xs.length/\i<ys.length:=by simpa[Nat.lt_min]using h2
 simp[List.getD,h3.1,h3.2]
section
variable {p m t few:Nat} (G:Good p m t)
include G
theorem ygs{x y:Nat}(hx:x∈lets p m t few)(hy:y∈lets p m t few):add p m x y∈lets p m t few:=by
 have bx:=ya3 x hx;have b_y:=ya3 y hy;rw[ybk G bx]at hx;rw[ybk G b_y]at hy;rw[ybk G (zbb G.hp G.hm _ _),G.frobN few bx b_y,hx,hy]
theorem zgJ{x y:Nat}(hx:x∈lets p m t few)(hy:y∈lets p m t few):mul p m t x y∈lets p m t few:=by
 have bx:=ya3 x hx;have b_y:=ya3 y hy;rw[ybk G bx]at hx;rw[ybk G b_y]at hy;rw[ybk G (zaA G.hp G.hm _ _),zdc G.hp G.hm,hx,hy]
theorem ye5:∀ {v:List Nat},(∀x∈v,x<p^m)->List.zipWith (add p m) v (List.replicate v.length 0)=v
 | [],_=>rfl
 |x::v,h=>by
  rw[xAO,xAH,List.zipWith_cons_cons,add_zero G.hp G.hm (h x (xAb ..)),ye5 λy hy=>h y (xA7 _ hy)]
theorem yf4{v:List Nat}{fr k c:Nat}(hv:v.length=k)(hk:k<fr)(hx:∀x∈v,x<p^m)(hc:c<p^m):sums p m (v++List.replicate (fr-k) 0) (yaB p m t c (unG fr k))=v++[c]++List.replicate (fr-(k+1)) 0:=by
 have hp:=G.hp;have hm:=G.hm;obtain⟨r,hr⟩:∃r,fr-k=r+1:=⟨fr-k-1,by lia⟩
 have z0:add p m 0 0=0:=add_zero hp hm (yal hp hm);rw[zdy,ycN];unfold unG;rw[show fr-k-1=r by lia,show fr-(k+1)=r by lia,hr,xAe,xAe,List.map_replicate,List.map_replicate,List.map_singleton,mul_zero hp hm,mul_one hp hm hc,xB5,xB5];rw[List.zipWith_append (by rw[xAq];exact hv)];congr 1
 ·rw[<-hv];exact ye5 G hx
 ·rw[xAH];show add p m 0 c::List.zipWith (add p m) (List.replicate r 0) (List.replicate r 0)=c::List.replicate r 0;rw[zero_add hp hm hc,List.zipWith_replicate,z0,Nat.min_self]
theorem yg4{root n fr:Nat}{marks:List Nat}(hfr:fr+marks.length=n):∀k,k<=fr->WOk p m t root n marks (wdL p m t root marks few fr k)
 |0,_=>λu hu=>by
  have uz:∀x∈List.replicate fr 0,x<p^m:=λx hx=>by rw[xBa hx];exact yal G.hp G.hm
  cases xAA.mp hu;exact⟨by rw[ych G uz,xAq];lia,zec G uz,λk hk=>ydA G uz hk⟩
 |k+1,hk=>λu hu=>by
  obtain⟨v,hv,h1⟩:=List.mem_flatMap.mp hu;obtain⟨y,hy,rfl⟩:=xAg.mp h1;obtain⟨c,_,rfl⟩:=xAg.mp hy;exact WOk.more G (c:=c) (yg4 hfr k (by lia)) (by rw[ych G (zck G),zdz (by lia)];lia) (zec G (zck G)) (λk' hk'=>ydA G (zck G) hk') _ (xAg.mpr ⟨v,hv,rfl⟩)
theorem yf1{root n fr:Nat}{marks:List Nat}(hfr:fr+marks.length=n):∀k,k<=fr->(wdL p m t root marks few fr k).map (List.drop marks.length)=(allK (lets p m t few) k).map λv=>v++List.replicate (fr-k) 0
 |0,_=>by
  have uz:∀x∈List.replicate fr 0,x<p^m:=λx hx=>by rw[xBa hx];exact yal G.hp G.hm
  show [_]=[_]
  rw[ydB G uz];rfl
 |k+1,hk=>by
  have ih:=yf1 (root:=root) hfr k (by lia);show((wdL p m t root marks few fr k).flatMap λu=>(mulR p m t root marks few fr k).map (sums p m u)).map (List.drop marks.length)=((allK (lets p m t few) k).flatMap λv=>(lets p m t few).map λc=>v++[c]).map λv=>v++List.replicate (fr-(k+1)) 0
  rw[List.map_flatMap,List.map_flatMap];have e1:((wdL p m t root marks few fr k).flatMap λu=>((mulR p m t root marks few fr k).map (sums p m u)).map (List.drop marks.length))=((wdL p m t root marks few fr k).map (List.drop marks.length)).flatMap λx=>(lets p m t few).map λc=>sums p m x (yaB p m t c (unG fr k)):=by
   rw[List.flatMap_map];refine zhI λu _=>?_
   unfold mulR;rw[List.map_map,List.map_map];refine xAy λc _=>?_
   show(sums p m u (yaB p m t c (mdL p m t root marks (unG fr k)))).drop marks.length=_;rw[zdy,zdy,List.drop_zipWith,ycN,ycN,<-List.map_drop,ydB G (zck G)]
  rw[e1,ih,List.flatMap_map];refine zhI λv hv=>?_
  obtain⟨h1,h2⟩:=ye2 _ hv;rw[List.map_map];exact xAy λc hc=>yf4 G h1 (by lia) (λx hx=>ya3 x (h2 x hx)) (ya3 c hc)
theorem ygL{root n:Nat}{marks:List Nat}(W:Whl p m t few root n marks):∀x∈mkL p m t root marks,x∈lets p m t few:=λx hx=>by
 have h1:=zax G.hp G.hm;rw[ybk G (zbE G marks x hx)];refine zgh G W (zbE G marks) (λk hk=>ycs G hk) (λy hy=>?_) x hx;have ml:=zaV p m t root marks;have e:(mkL p m t root marks).drop marks.length=[1]:=by
  refine xAP (by rw[List.length_drop,ml,List.length_singleton];lia) λi a1 a2=>?_
  have:i=0:=by rw[List.length_singleton]at a2;lia
  subst this;have:=yb3 G root marks;rw[xAf,xA5 (by lia)]at this;rw[List.getElem_drop]
  simpa using this
 rw[e]at hy;rw[xAA.mp hy,zcU G.hp G.hm]
theorem ydw{root n:Nat}{marks:List Nat}(W:Whl p m t few root n marks):∀k,∀u∈lwL p m t root n marks few k,∀x∈u,x∈lets p m t few
 |0,u,hu,x,hx=>by
  cases xAA.mp hu;rw[xBa hx,ybk G (yal G.hp G.hm)];obtain⟨q,e⟩:∃q,p^few=q+1:=⟨p^few-1,by have:0<p^few:=xB1 (by have:=G.hp;lia);lia⟩
  rw[e];exact zbZ G.hp G.hm q
 |k+1,u,hu,x,hx=>by
  have z:(0:Nat)∈lets p m t few:=ydw W 0 _ (xAA.mpr rfl) 0 (List.mem_replicate.mpr ⟨by have:=W.ord.pos;lia,rfl⟩);obtain⟨c,hc,h2⟩:=List.mem_flatMap.mp hu;obtain⟨v,hv,rfl⟩:=xAg.mp h2;obtain⟨i,hi,rfl⟩:=xAg.mp hx;have hi:=xAw.mp hi;have h3:∀ {l:List Nat} {j:Nat},(∀y∈l,y∈lets p m t few)->l.getD j 0∈lets p m t few:=λ{l j} h=>by
   by_cases hj:j<l.length
   ·rw[show l.getD j 0=l[j] by simp[List.getD,hj]];exact h _ (xBp hj)
   ·rw[show l.getD j 0=0 by simp[List.getD,Nat.le_of_not_lt hj]];exact z
  refine ygs G (h3 (ydw W k v hv)) (h3 λy hy=>?_);obtain⟨j,_,rfl⟩:=xAg.mp hy;refine zgJ G hc (h3 λy hy=>?_);unfold mvL padL at hy;simp only[xAE,List.mem_replicate]at hy;rcases hy with(⟨_,rfl⟩|hy) |⟨_,rfl⟩
  ·exact z
  ·exact ygL G W y hy
  ·exact z
theorem ydu{n i:Nat}{xs ys:List Nat}(h1:xs.length=n)(h2:ys.length=n)(hi:i<n):(addL p m xs ys).getD i 0=add p m (xs.getD i 0) (ys.getD i 0):=by
 unfold addL;rw[xAf,xA8,xAL (by lia)];rfl
theorem yca{c n i:Nat}{xs:List Nat}(h1:xs.length=n)(hi:i<n):(yaB p m t c xs).getD i 0=mul p m t c (xs.getD i 0):=by
 unfold yaB;rw[xAf,xA8,xAL (by lia)];rfl
theorem zhJ{root n k:Nat}{marks:List Nat}(hk:k<n-marks.length):(mvL p m t root n marks k).getD (marks.length+k) 0=1:=by
 unfold mvL padL;have ml:=zaV p m t root marks;rw[xAf,xBn (by rw[xAt,xAq,ml];lia),xAU (by rw[xAq];lia),xAq,show marks.length+k-k=marks.length by lia,<-xAf,yb3 G]
theorem zhF{root n k i:Nat}{marks:List Nat}(hi:marks.length+k<i):(mvL p m t root n marks k).getD i 0=0:=by
 unfold mvL padL;have ml:=zaV p m t root marks;rw[xAf,xAU (by rw[xAt,xAq,ml];lia)];by_cases h:i-(List.replicate k 0++mkL p m t root marks).length<n-k-(marks.length+1)
 ·rw[List.getElem?_replicate,if_pos h];rfl
 ·rw[List.getElem?_replicate,if_neg h];rfl
theorem zeC{root n:Nat}{marks:List Nat}:∀k,k<=n-marks.length->∀u∈lwL p m t root n marks few k,∀i,marks.length+k<=i->u.getD i 0=0
 |0,_,u,hu,i,_=>by
  cases xAA.mp hu;rw[xAf,List.getElem?_replicate];split <;> rfl
 |k+1,hk,u,hu,i,hi=>by
  obtain⟨c,hc,h2⟩:=List.mem_flatMap.mp hu;obtain⟨v,hv,rfl⟩:=xAg.mp h2;have hv1:=(zcM (root:=root) (marks:=marks) (few:=few) G k (by lia) v hv).1;have lp:(yaB p m t c (mvL p m t root n marks k)).length=n:=by rw[ycK];exact yea (by lia)
  by_cases hin:i<n
  ·rw[ydu G hv1 lp hin,zeC k (by lia) v hv i (by lia),yca G (yea (by lia)) hin,zhF G (by lia),mul_zero G.hp G.hm,add_zero G.hp G.hm (yal G.hp G.hm)]
  ·rw[xAf,List.getElem?_eq_none (by rw[ycr hv1 lp];lia)];rfl
theorem yhN{root n:Nat}{marks:List Nat}:∀k,k<=n-marks.length->(lwL p m t root n marks few k).Nodup
 |0,_=>xBe.mpr ⟨xAn,List.nodup_nil⟩
 |k+1,hk=>by
  have hp:=G.hp;have hm:=G.hm;refine yfK (yhN k (by lia)) (List.Pairwise.filter _ (List.pairwise_lt_range.imp λh=>by lia)) λc hc c' hc' u hu v hv e=>?_
  have hu1:=zcM (root:=root) (marks:=marks) (few:=few) G k (by lia) u hu;have hv1:=zcM (root:=root) (marks:=marks) (few:=few) G k (by lia) v hv;have lm:(mvL p m t root n marks k).length=n:=yea (by lia);have lp:∀c,(yaB p m t c (mvL p m t root n marks k)).length=n:=λc=>by rw[ycK];exact lm
  have at_:∀i,i<n->add p m (u.getD i 0) (mul p m t c ((mvL p m t root n marks k).getD i 0))=add p m (v.getD i 0) (mul p m t c' ((mvL p m t root n marks k).getD i 0)):=λi hi=>by
   have:=congrArg (λl:List Nat=>l.getD i 0) e
   try dsimp only at this
   rw[ydu G hu1.1 (lp c) hi,ydu G hv1.1 (lp c') hi,yca G lm hi,yca G lm hi]at this;exact this
  have ec:c=c':=by
   have:=at_ (marks.length+k) (by lia);rw[zhJ G (by lia),zeC G k (by lia) u hu _ (xA4 _),zeC G k (by lia) v hv _ (xA4 _),mul_one hp hm (ya3 c hc),mul_one hp hm (ya3 c' hc'),zero_add hp hm (ya3 c hc),zero_add hp hm (ya3 c' hc')]at this;exact this
  subst ec;refine⟨rfl,xAP (hu1.1.trans hv1.1.symm) λi a1 a2=>?_⟩;have h1:=at_ i (by lia);have g:∀ {l:List Nat} (h:i<l.length),l.getD i 0=l[i]:=λh=>by simp[List.getD,h]
  rw[g a1,g a2]at h1;have h2:=congrArg (λx=>sub p m x (mul p m t c ((mvL p m t root n marks k).getD i 0))) h1
  rwa [zb0 hp hm (hu1.2.1 _ (xBp a1)),zb0 hp hm (hv1.2.1 _ (xBp a2))]at h2
theorem yfe{root n fr:Nat}{marks:List Nat}(W:Whl p m t few root n marks)(hfr:fr+marks.length=n):(wdL p m t root marks few fr fr).Perm (lwL p m t root n marks few fr):=by
 have back:∀ {l:List (List Nat)},WOk p m t root n marks l->(l.map (List.drop marks.length)).map (mdL p m t root marks)=l:=λ{l} h=>by
  rw[List.map_map]
  conv=>rhs;rw[<-List.map_id l]
  exact xAy λu hu=>zdm G W (h u hu).1 (by lia) (h u hu).2.1 (h u hu).2.2
 have hA:=yg4 (few:=few) (root:=root) G hfr fr (xA4 _);have hB:=zcM (root:=root) (marks:=marks) (n:=n) (few:=few) G fr (by lia);have eA:=yf1 (few:=few) (root:=root) G hfr fr (xA4 _);rw[Nat.sub_self]at eA;have eA2:(wdL p m t root marks few fr fr).map (List.drop marks.length)=allK (lets p m t few) fr:=by
  rw[eA]
  conv=>rhs;rw[<-List.map_id (allK (lets p m t few) fr)]
  exact xAy λv _=>List.append_nil v
 have hBp:((lwL p m t root n marks few fr).map (List.drop marks.length)).Perm (allK (lets p m t few) fr):=by
  refine zfA ?_ (λv hv=>?_) ?_
  ·rw[List.Nodup,List.pairwise_map];refine List.Pairwise.imp_of_mem (λ{u v} hu hv ne e=>ne ?_) (yhN G fr (by lia));have h1:=hB u hu;have h2:=hB v hv;rw[<-zdm G W h1.1 (by lia) h1.2.1 h1.2.2,e,zdm G W h2.1 (by lia) h2.2.1 h2.2.2]
  ·obtain⟨u,hu,rfl⟩:=xAg.mp hv;exact ye1 _ (by rw[List.length_drop,(hB u hu).1];lia) λx hx=>ydw G W fr u hu x (List.mem_of_mem_drop hx)
  ·rw[xA0,zeO,zdK];exact xA4 _
 have h:=(eA2 ▸ hBp.symm:((wdL p m t root marks few fr fr).map (List.drop marks.length)).Perm _).map (mdL p m t root marks)
 rwa [back hA,back hB]at h
end
end My
end
section
-- text: Q31
namespace My
open PySem L2 Dg
noncomputable def wt(ns:List Nat):Nat:=(ns.filter (·≠0)).length
theorem zgn(xs:List Nat):wt xs<=xs.length:=List.length_filter_le _ _
theorem zfY{xs:List Nat}{k:Nat}{z:V}(h:(xs.map Vn)[k]?=some z):∃h:k<xs.length,z=Vn xs[k]:=by
 rw[xA8]at h;rcases hk:xs[k]? with _|v
 ·rw[hk]at h;cases h
 ·rw[hk]at h;obtain⟨h1,h2⟩:=xAk.mp hk;exact⟨h1,by rw[h2];exact(xAv h).symm⟩
noncomputable def hst(n:Nat)(rs:List (List Nat)):List Nat:=(List.range (n+1)).map λw=>rs.countP λr=>wt r==w
theorem yce(n:Nat)(rs:List (List Nat)):(hst n rs).length=n+1:=by simp[hst]
theorem yeL{n:Nat}{rs qs:List (List Nat)}(h:rs.Perm qs):hst n rs=hst n qs:=xAy λw _=>h.countP_eq _
theorem zex(n:Nat):hst n []=List.replicate (n+1) 0:=by
 unfold hst;simp only[List.countP_nil];rw[List.map_const',xAr]
theorem yhE{n w:Nat}{rs:List (List Nat)}(h:w<=n):(hst n rs).getD w 0=rs.countP λr=>wt r==w:=by
 unfold hst;rw[xAf,xA8,xAL (by lia)];rfl
theorem zeM{n:Nat}{rs:List (List Nat)}{r:List Nat}(h:wt r<=n):(hst n rs).set (wt r) ((hst n rs).getD (wt r) 0+1)=hst n (rs++[r]):=by
 refine xAP (by rw[List.length_set,yce,yce]) λi a1 a2=>?_
 rw[yce]at a2;have g:∀ {rs:List (List Nat)} (q:i<(hst n rs).length),(hst n rs)[i]=rs.countP λr=>wt r==i:=λq=>by simp[hst]
 rw[List.getElem_set,g,g,yhE h,List.countP_append];by_cases c:wt r=i
 ·subst c;rw[if_pos rfl,List.countP_cons_of_pos (by simp)];rfl
 ·rw[if_neg c,List.countP_cons_of_neg (by simpa using c)];rfl
theorem zhS{n M:Nat}{rs:List (List Nat)}(h:rs.length<=M):∀x∈hst n rs,x<=M:=λx hx=>by
 obtain⟨w,_,rfl⟩:=xAg.mp hx;exact xAB List.countP_le_length h
noncomputable def shB(n:Nat):Bool:=PyData.leavesShort 8 (.int (n:Int))&&decide (PyData.weight (.int (n:Int))<=40)
theorem yh7:(List.range 4097).all shB=true:=by decide +kernel
theorem ygB{ns:List Nat}(h:∀n∈ns,n<=4096):PyData.showableAll (ns.map λn:Nat=>PyData.int (n:Int))=true/\PyData.hasDictAll (ns.map λn:Nat=>PyData.int (n:Int))=false/\PyData.depthAll (ns.map λn:Nat=>PyData.int (n:Int))=0/\PyData.leavesShortAll 8 (ns.map λn:Nat=>PyData.int (n:Int))=true/\PyData.weightAll (ns.map λn:Nat=>PyData.int (n:Int))<=41*ns.length:=by
 induction ns with
 |nil=>exact⟨rfl,rfl,rfl,rfl,xA4 _⟩
 |cons n ns ih=>
  obtain⟨i1,i2,i3,i4,i5⟩:=ih λy hy=>h y (xA7 _ hy)
  have hn:=h n xAb;have k:=xB4.mp yh7 n (xAw.mpr (by lia));unfold shB at k;rw[xAx,xBm]at k;have lg:(n:Int).natAbs.log2<1920:=by
   rw[Int.natAbs_natCast];have:=Nat.log2_le_self n;rcases xAZ n with e|e
   ·rw[e];decide
   ·exact(Nat.log2_lt (by lia)).mpr (Nat.lt_of_le_of_lt hn (xAz (show 4096<2^13 by decide) (xAI (by decide) (by decide))))
  rw[List.map_cons];refine⟨?_,?_,?_,?_,?_⟩
  ·show(decide ((n:Int).natAbs.log2<1920)&&PyData.showableAll _)=true;rw[i1,xAG lg];rfl
  ·show(false||PyData.hasDictAll _)=false;rw[i2];rfl
  ·show max 0 (PyData.depthAll _)=0;rw[i3];rfl
  ·show(PyData.leavesShort 8 (.int (n:Int))&&PyData.leavesShortAll 8 _)=true;rw[k.1,i4];rfl
  ·show PyData.weight (.int (n:Int))+1+PyData.weightAll _<=41*(ns.length+1);lia
theorem yhg{ns:List Nat}(h:∀n∈ns,n<=4096)(hl:ns.length<=100):DOk (.tuple (ns.map λn:Nat=>PyData.int (n:Int))) (2^20):=by
 obtain⟨b1,b2,b3,b4,b5⟩:=ygB h;refine⟨b1,b2,?_,b4,?_⟩
 ·show PyData.depthAll _+1<=40;rw[b3];decide
 ·show PyData.weightAll _<=2^20;have:(2:Nat)^20=1048576:=by decide
  lia
theorem ygX{K:PySem.W.Frag}{H:Hp}{l d:Addr}{zs xs:List V}{o:HO}(hl:H l=some (.lst zs))(h:SqT K H d xs):SqT K (upd H l o) d xs:=by
 rcases h with(h |⟨o',h⟩)|h
 ·exact .inl (.inl (by rw[yag (λe=>by rw[e,hl]at h;cases h)];exact h))
 ·exact .inl (.inr ⟨o',by rw[yag (λe=>by rw[e,hl]at h;cases h)];exact h⟩)
 ·exact .inr h
theorem Rws.atL{K:PySem.W.Frag}{H:Hp}{l:Addr}{zs:List V}{o:HO}(hl:H l=some (.lst zs)):∀ {ds:List Addr} {rs:List (List Nat)},Rws K H ds rs->Rws K (upd H l o) ds rs
 | [],[],_=>trivial
 |_::_,_::_,h=>⟨ygX hl h.1,Rws.atL hl h.2⟩
 | [],_::_,h=>h.elim
 |_::_,[],h=>h.elim
section
variable {P:Program} {w:World} {K:PySem.W.Frag} {mg:Str->Option Value} {base:Heap} {f:Addr} {fd:FuncData}
noncomputable def zee(K:PySem.W.Frag):Sp:=λvs H Q _=>∃(a:Addr) (ns:List Nat),vs=[.ref a]/\SqT K H a (ns.map Vn)/\ns.length<=1000/\∀H',Same H H'->Q (Vn (wt ns)) H'
theorem yfp:yah ["word"] ["word"] (zae zcv):=⟨rfl,rfl,rfl,by decide +kernel,rfl,by decide +kernel,by decide +kernel⟩
theorem yf3(B:Bl mg)(F:Fun K "weight" "weight" zcv f fd):FnOk P w K mg base CX0 1 f fd ["word"] (zee K):=by
 refine F.ok yfp (λvs H Q E h=>?_) (λcdv A outer s H vs Q E hr h=>?_)
 ·obtain⟨a,ns,rfl,_⟩:=h;rfl
 obtain⟨a,ns,rfl,hF,hn,q⟩:=h;refine⟨_,(yad (@yaj _ _ _ _ (zal zaj rfl (B "len" (by decide)) xAT (zaa (@yaF _ _ _ _ _ _ _ ["thing"] [] [] _ _ _ _ (id (α:=CSc ["word"] (zae zcv) ["thing"] [] [] _) ⟨by rfl,by decide +kernel,by decide +kernel,by decide +kernel,by decide +kernel,by rfl,by decide +kernel⟩) rfl (@ycG _ _ _ _ (pv 0)) (λcl C fp s H=>(@yae _ _ 0 _ (by show List.Nodup (["thing"]:List Str);decide +kernel) rfl (Or.inl rfl) (by trivial))) (λ_ _ _ _ _=>(@zbz _ _ _ (@zai _ _ _ _ _ _ _ _ zd5 (pv 0) yac (yak _)))) (λ_ _ _ _ _=>(pv 0)) (by intro _;rfl)) zac ⋯) (by decide) (by decide) ⋯ ⋯))),?_⟩;refine⟨_,rfl,a,rfl,⟨_,hF⟩,?_⟩;refine yav (zbt (xs:=ns.map Vn)) (λk acc H'=>H'=H/\acc=((ns.take k).filter (·≠0)).map Vn) ⟨rfl,rfl⟩ (λi acc H' _ h=>h.1 ▸ hF) ?_ ?_ ?_
 ·rintro k acc H' hk ⟨_,rfl⟩;have:=zgn (ns.take k);rw[xAC]at this;rw[xA0];exact yao (by unfold wt at this;lia)
 ·rintro k acc z H1 H2 hk ⟨rfl,rfl⟩ ⟨rfl,ez⟩;obtain⟨hk',rfl⟩:=zfY ez;refine⟨_,rfl,rfl,_,rfl,?_⟩;have e:ns.take (k+1)=ns.take k++[ns[k]]:=by rw[xBi hk']
  refine ite2 (λc=>?_) (λc=>?_)
  ·refine⟨_,rfl,rfl,?_⟩;have c':ns[k]≠0:=by simpa using c
   rw[e,List.filter_append,xAe];simp[c']
  ·refine⟨rfl,?_⟩;have c':ns[k]=0:=by simpa using c
   rw[e,List.filter_append];simp[c']
 ·rintro acc H1 ⟨rfl,rfl⟩ D hD;refine⟨D,_,rfl,.inl (SqL.of yaa),?_⟩;rw[xA0,xA0,xAJ];exact q _ (yab hD _)
noncomputable def zd2(K:PySem.W.Frag):Sp:=λvs H Q _=>∃(wh fa mk:Addr) (p m t few root n fr:Nat) (marks:List Nat),vs=[.ref wh]/\WQ K wh fa mk p m t few root n fr marks H/\(p^few)^fr<=4096/\∀(r:Addr) (H':Hp),Same H H'->SqT K H' r ((hst n (wdL p m t root marks few fr fr)).map Vn)->Q (.ref r) H'
theorem WQ.same{wh fa mk:Addr}{p m t few root n fr:Nat}{marks:List Nat}{H H':Hp}(h:WQ K wh fa mk p m t few root n fr marks H)(s:Same H H'):WQ K wh fa mk p m t few root n fr marks H':=⟨h.1.same s,Same.tup s h.2.1,h.2.2⟩
theorem ycW:yah ["wheel","found","word"] ["wheel"] (zae ydH):=⟨rfl,rfl,rfl,by decide +kernel,rfl,by decide +kernel,by decide +kernel⟩
theorem zfH(B:Bl mg)(xBU:Has P w K mg base 5 "length" ["wheel"] (zcA K))(xCg:Has P w K mg base 9 "words" ["wheel"] (ze2 K))(xCc:Has P w K mg base 1 "weight" ["word"] (zee K))(F:Fun K "counts" "counts" ydH f fd):FnOk P w K mg base CX0 10 f fd ["wheel"] (zd2 K):=by
 refine F.ok ycW (λvs H Q E h=>?_) (λcdv A outer s H vs Q E hr h=>?_)
 ·obtain⟨wh,fa,mk,p,m,t,few,root,n,fr,marks,rfl,_⟩:=h;rfl
 obtain⟨wh,fa,mk,p,m,t,few,root,n,fr,marks,rfl,hWQ,hz,q⟩:=h;obtain⟨hW,hF,G,h0,hq,o,hfr,hn,hmf,hf1,hpf⟩:=id hWQ;refine⟨_,(zab (@zag _ _ 1 _ _ _ _ ycW.nd rfl (Or.inl rfl) (zaf ycn (@yaA _ _ _ _ (zaa yac zac ⋯)) (zaf zau (zad xBU hr (by decide) rfl (zaa (pv 0) zac ⋯) (by decide) ⋯ ⋯) yac)) ⋯ (by trivial)) (zab (@yaC _ _ _ _ _ _ _ _ xAl rfl (@ycG _ _ _ _ (zad xCg hr (by decide) rfl (zaa (pv 0) zac ⋯) (by decide) ⋯ ⋯)) (@yae _ _ 2 _ ycW.nd rfl (Or.inl rfl) (by trivial)) (yad (yg7 (pv 1) (zad xCc hr (by decide) rfl (zaa (pv 2) zac)) zgq yac zds yaW)) (by intro _;rfl)) (yad (@yaj _ _ _ _ (zap yap rfl (B "tuple" (by decide)) zaq (zaa (pv 1) zac ⋯) (by decide) (by decide) ⋯ ⋯))))),?_⟩;refine⟨szl 1,λz0 hz0=>?_⟩;have s0:=yab hz0 (.lst [V.int 0]);refine⟨_,rfl,wh,fa,p,m,t,few,root,.ref mk,rfl,SqT.of (hW.same s0).w,Same.tup s0 hF,G,h0,hq,λn' o' _=>?_⟩;cases o'.uniq o;refine⟨_,_,rfl,rfl,z0,_,_,rfl,rfl,yaa,by lia,by lia,by rw[show((n:Int)+1).toNat=n+1 by lia];exact szl _ (by simp;lia),λfl hfl=>?_⟩;rw[show((n:Int)+1).toNat=n+1 by lia,ybH,<-zex];have s1:=s0.trans (yab hfl (.lst ((hst n []).map Vn)));have flH:H fl=none:=s0.free hfl;have efl:upd (upd H z0 (.lst [V.int 0])) fl (.lst ((hst n []).map Vn)) fl=some (.lst ((hst n []).map Vn)):=yaa;dsimp only[yau];change tSeq _ _ _ _ (upd (upd H z0 (.lst [V.int 0])) fl (.lst ((hst n []).map Vn)));generalize upd (upd H z0 (.lst [V.int 0])) fl (.lst ((hst n []).map Vn))=H1 at s1 efl ⊢;refine⟨_,rfl,wh,fa,mk,p,m,t,few,root,n,fr,marks,rfl,hWQ.same s1,hz,λr ds rs H2 s2 hr2 hR hP=>?_⟩;refine⟨r,rfl,⟨_,hr2⟩,?_⟩;have wl:rs.length<=4096:=by rw[hP.length_eq,zcN,zer G hmf hf1];exact hz
 have wr:∀u∈rs,u.length=n:=λu hu=>(zew G hfr fr (xA4 _) u (hP.mem_iff.mp hu)).1
 have rl:=hR.len;refine yaM (zbt (xs:=ds.map V.ref)) (λi σ H'=>Same H H'/\SqT K H' r (ds.map V.ref)/\Rws K H' ds rs/\H' fl=some (.lst ((hst n (rs.take i)).map Vn))/\∃v2,σ=[some (.ref wh),some (.ref fl),v2]) ⟨s1.trans s2,hr2,hR,s2 _ _ efl,_,rfl⟩ (λ_ _ _ _ h=>h.2.1) ?_ ?_
 ·rintro i x σ H3 H3' hi ⟨s3,hr3,hR3,e3,v2,rfl⟩ ⟨rfl,ez⟩;rw[xA0,rl]at hi;obtain⟨d,ed,hd⟩:=hR3.get hi;rw[xA8,ed]at ez;cases ez;obtain⟨u,eu⟩:∃u,u=rs.getD i []:=⟨_,rfl⟩
  have hu:u∈rs:=by rw[eu];simp[List.getD,hi]
  rw[<-eu]at hd;have hwu:wt u<=n:=by have:=zgn u;rw[wr u hu]at this;exact this
  dsimp only[yau];refine⟨_,rfl,_,rfl,d,u,rfl,hd,by rw[wr u hu];lia,λH4 s4=>?_⟩;have e4:=s4 _ _ e3;have wl2:wt u<(hst n (rs.take i)).length:=by rw[yce];lia
  refine⟨fl,_,_,_,rfl,rfl,by lia,SqL.of e4,zaN (zav wl2),_,_,rfl,rfl,?_⟩;refine⟨fl,_,_,wt u,rfl,rfl,e4,by rw[xA0];exact zdL wl2,?_⟩;refine⟨ybf (s3.trans s4) flH,ygX e4 (Same.tup s4 hr3),(hR3.same s4).atL e4,?_,_,rfl⟩;rw[yaa,za6 (d:=[]) hi,<-eu,<-zeM hwu,List.map_set];rfl
 ·rw[xA0,rl];rintro σ H3 ⟨s3,hr3,hR3,e3,v2,rfl⟩;rw[xAJ,yeL hP]at e3;refine⟨_,rfl,fl,_,rfl,.inl ⟨SqL.of e3,λtp htp=>?_⟩⟩;exact q tp _ (s3.trans (yab htp _)) (SqT.of yaa)
end
end My
end
section
-- text: R31
namespace My
open PySem L2 Dg
section
variable {P:Program} {w:World} {K:PySem.W.Frag} {mg:Str->Option Value} {base:Heap} {f:Addr} {fd:FuncData}
theorem Tups.get{H:Hp}{ds:List Addr}{ls:List (List Nat)}{i:Nat}(h:Tups H ds ls)(hi:i<ls.length):∃d,ds[i]?=some d/\H d=some (.tup ((ls.getD i []).map Vn)):=by
 have hd:i<ds.length:=by rw[h.1];exact hi
 obtain⟨rs,e,hr⟩:=h.2 i ds[i] (xA5 hd);refine⟨ds[i],xA5 hd,?_⟩;rw[xAf,e];exact hr
noncomputable def zdZ(K:PySem.W.Frag):Sp:=λvs H Q _=>∃(a:Addr) (ns:List Int),vs=[.ref a]/\SqL K H a (ns.map V.int)/\∀H',Q (.bl true) H'
theorem zbT:yah ["_law_script","_law_purse_here","_law_turn","_law_way","_law_most","_law_many","_law_table_here","_law_wheel_here","_law_due","_law_word"] ["_law_script"] (zae zd9):=⟨rfl,rfl,rfl,by decide +kernel,rfl,by decide +kernel,by decide +kernel⟩
theorem zhX(B:Bl mg)(xBH:Has P w K mg base 1 "_law_purse" ["_law_script"] (zeU K))(xBD:Has P w K mg base 1 "_law_pick" ["_law_purse_here","_law_many"] ycO)(xBL:Has P w K mg base 6 "_law_small_wheel" ["_law_purse_here","_law_most","_law_listed"] zd1)(xBK:Has P w K mg base 2 "_law_round" ["_law_table_here","_law_one"] ybI)(xBP:Has P w K mg base 4 "_law_words" ["_law_table_here","_law_wheel_here"] ydN)(xBQ:Has P w K mg base 10 "counts" ["wheel"] (zd2 K))(F:Fun K "law" "law" zd9 f fd):FnOk P w K mg base CX0 11 f fd ["_law_script"] (zdZ K):=by
 refine F.ok zbT (λvs H Q E h=>?_) (λcdv A outer s H vs Q E hr h=>?_)
 ·obtain⟨a,ns,rfl,_⟩:=h;rfl
 obtain⟨a,ns,rfl,ha,q⟩:=h;refine⟨_,(@zab _ _ _ _ _ (@zag _ _ 1 _ _ _ _ zbT.nd rfl (Or.inl rfl) (@zad _ _ _ _ _ _ _ _ _ _ _ xBH hr (by decide) rfl (@zaa _ _ _ _ _ (pv 0) zac ⋯) (by decide) ⋯ ⋯) ⋯ (by trivial)) (@zab _ _ _ _ _ (@yaC _ _ _ _ _ _ _ _ xAl rfl (@yaK _ _ _ _ _ _ rfl (B "range" (by decide)) (@zaa _ _ _ _ _ yac zac ⋯) ⋯) (@yae _ _ 2 _ zbT.nd rfl (Or.inl rfl) (by trivial)) (@zab _ _ _ _ _ (@zag _ _ 3 _ _ _ _ zbT.nd rfl (Or.inl rfl) (@zad _ _ _ _ _ _ _ _ _ _ _ xBD hr (by decide) rfl (@zaa _ _ _ _ _ (pv 1) (@zaa _ _ _ _ _ yac zac ⋯) ⋯) (by decide) ⋯ ⋯) ⋯ (by trivial)) (@zab _ _ _ _ _ (@ybS _ _ 4 5 _ _ _ _ _ _ _ _ _ _ _ rfl zbT.nd rfl rfl (by decide) rfl rfl (@zaa _ _ _ _ _ (@zan _ _ _ _ _ _ _ zao (@yaA _ _ _ _ (@zaa _ _ _ _ _ yac (@zaa _ _ _ _ _ yac zac ⋯) ⋯)) (@zap _ _ _ _ _ _ _ _ _ ycL rfl (B "int" (by decide)) ybW (@zaa _ _ _ _ _ (@ydi _ _ _ _ _ _ _ _ ya9 (@zaf _ _ _ _ _ _ _ _ yaz (pv 3) yac) yac (yak _)) zac ⋯) (by decide) (by decide) ⋯ ⋯) (λ_ _=>rfl)) (@zaa _ _ _ _ _ (@zan _ _ _ _ _ _ _ zao (@yaA _ _ _ _ (@zaa _ _ _ _ _ yac (@zaa _ _ _ _ _ yac zac ⋯) ⋯)) (@zap _ _ _ _ _ _ _ _ _ ycL rfl (B "int" (by decide)) ybW (@zaa _ _ _ _ _ (@ydi _ _ _ _ _ _ _ _ ya9 (pv 3) yac (yak _)) zac ⋯) (by decide) (by decide) ⋯ ⋯) (λ_ _=>rfl)) zac ⋯) ⋯) rfl ⋯) (@zab _ _ _ _ _ (@yaU _ _ _ _ _ _ (@zad _ _ _ _ _ _ _ _ _ _ _ xBL hr (by decide) rfl (@zaa _ _ _ _ _ (pv 1) (@zaa _ _ _ _ _ (pv 4) (@zaa _ _ _ _ _ (pv 5) zac ⋯) ⋯) ⋯) (by decide) ⋯ ⋯) (@za2 _ _ _ _ _ _ rfl (@zah _ _ _ _ _ (@yae _ _ 6 _ zbT.nd rfl (Or.inl rfl) (by trivial)) (@zah _ _ _ _ _ (@yae _ _ 7 _ zbT.nd rfl (Or.inl rfl) (by trivial)) zaE ⋯) ⋯) ⋯ ⋯) ⋯ ⋯ ⋯) (@zab _ _ _ _ _ (@zag _ _ 8 _ _ _ _ zbT.nd rfl (Or.inl rfl) (@zaf _ _ _ _ _ _ _ _ ycn (@yaA _ _ _ _ (@zaa _ _ _ _ _ yac zac ⋯)) (@zaf _ _ _ _ _ _ _ _ zau (@zad _ _ _ _ _ _ _ _ _ _ _ xBK hr (by decide) rfl (@zaa _ _ _ _ _ (pv 6) (@zaa _ _ _ _ _ (@zan _ _ _ _ _ _ _ zas (pv 7) yac (λ_ _=>rfl)) zac ⋯) ⋯) (by decide) ⋯ ⋯) yac)) ⋯ (by trivial)) (@zab _ _ _ _ _ (@yaC _ _ _ _ _ _ _ _ xAl rfl (@yaN _ _ _ _ (@zad _ _ _ _ _ _ _ _ _ _ _ xBP hr (by decide) rfl (@zaa _ _ _ _ _ (pv 6) (@zaa _ _ _ _ _ (pv 7) zac ⋯) ⋯) (by decide) ⋯ ⋯)) (@yae _ _ 9 _ zbT.nd rfl (Or.inl rfl) (by trivial)) (@zab _ _ _ _ _ (@zag _ _ 5 _ _ _ _ zbT.nd rfl (Or.inl rfl) (@zal _ _ _ _ _ _ _ _ _ zaj rfl (B "len" (by decide)) xAT (@zaa _ _ _ _ _ (@yaF _ _ _ _ _ _ _ ["_law_one"] [] [] _ _ _ _ (id (α:=CSc ["_law_script","_law_purse_here","_law_turn","_law_way","_law_most","_law_many","_law_table_here","_law_wheel_here","_law_due","_law_word"] (zae zd9) ["_law_one"] [] [] _) ⟨by rfl,by decide +kernel,by decide +kernel,by decide +kernel,by decide +kernel,by rfl,by decide +kernel⟩) rfl (@ycG _ _ _ _ (pv 9)) (λcl C fp s H=>(@yae _ _ 0 _ (by show List.Nodup (["_law_one"]:List Str);decide +kernel) rfl (Or.inl rfl) (by trivial))) (λ_ _ _ _ _=>(@zbz _ _ _ (@zai _ _ _ _ _ _ _ _ zd5 (pv 0) yac (yak _)))) (λ_ _ _ _ _=>(pv 0)) (by intro _;rfl)) zac ⋯) (by decide) (by decide) ⋯ ⋯) ⋯ (by trivial)) (@yad _ _ _ (@yaU _ _ _ _ _ _ (@zaf _ _ _ _ _ _ _ _ zau (@zan _ _ _ _ _ _ _ zao (pv 8) (pv 5) (λ_ _=>rfl)) yac) (@zb5 _ _ _ _ _ _ _ (pv 8) (pv 5) yaW (by intro _;rfl)) ⋯ ⋯ ⋯))) (by intro _;rfl)) (@yad _ _ _ (@za3 _ _ _ _ _ _ _ _ (@PW.pt _ _ _ (@zfu _ _ _ _ _ _ _ (@zai _ _ _ _ _ _ _ _ zd5 (@zal _ _ _ _ _ _ _ _ _ (ybP hr.gd hr.units) rfl (B "repr" (by decide)) PyProof.Rows.boot_repr (@zaa _ _ _ _ _ (@zad _ _ _ _ _ _ _ _ _ _ _ xBQ hr (by decide) rfl (@zaa _ _ _ _ _ (pv 7) zac ⋯) (by decide) ⋯ ⋯) zac ⋯) (by decide) (by decide) ⋯ ⋯) (@zal _ _ _ _ _ _ _ _ _ (ybP hr.gd hr.units) rfl (B "repr" (by decide)) PyProof.Rows.boot_repr (@zaa _ _ _ _ _ (@zap _ _ _ _ _ _ _ _ _ yap rfl (B "tuple" (by decide)) zaq (@zaa _ _ _ _ _ (pv 8) zac ⋯) (by decide) (by decide) ⋯ ⋯) zac ⋯) (by decide) (by decide) ⋯ ⋯) (yak _)) (@zdS _ _ _ _ (@zai _ _ _ _ _ _ _ _ zd5 (@zal _ _ _ _ _ _ _ _ _ (ybP hr.gd hr.units) rfl (B "repr" (by decide)) PyProof.Rows.boot_repr (@zaa _ _ _ _ _ (@zad _ _ _ _ _ _ _ _ _ _ _ xBQ hr (by decide) rfl (@zaa _ _ _ _ _ (pv 7) zac ⋯) (by decide) ⋯ ⋯) zac ⋯) (by decide) (by decide) ⋯ ⋯) (@zal _ _ _ _ _ _ _ _ _ (ybP hr.gd hr.units) rfl (B "repr" (by decide)) PyProof.Rows.boot_repr (@zaa _ _ _ _ _ (@zap _ _ _ _ _ _ _ _ _ yap rfl (B "tuple" (by decide)) zaq (@zaa _ _ _ _ _ (pv 8) zac ⋯) (by decide) (by decide) ⋯ ⋯) zac ⋯) (by decide) (by decide) ⋯ ⋯) (yak _))))) (@yad _ _ _ (@yaj _ _ _ _ zgy)) zaw))))))) (by intro _;rfl)) (@yad _ _ _ (@yaj _ _ _ _ zgy)))),?_⟩
 refine⟨_,rfl,a,ns,rfl,ha,λpu g H1 n1 n2 s1 hP=>?_⟩;refine⟨2,rfl,by decide,by decide,?_⟩;refine zaR (lo:=0) (n:=2) (λi σ H'=>Pu H' pu g/\∃s2 s3 s4 s5 s6 s7 s8 s9,σ=[some (.ref a),some (.ref pu),s2,s3,s4,s5,s6,s7,s8,s9]) ⟨hP,none,none,none,none,none,none,none,none,rfl⟩ ?_ (λσ H' _=>q _);rintro j σ H2 hj ⟨hP2,s2,s3,s4,s5,s6,s7,s8,s9,rfl⟩;refine⟨_,rfl,pu,g,12,rfl,hP2,by lia,by lia,λway H3 hway hP3 sx3=>?_⟩;dsimp only[yau];refine⟨szl 2,λl1 hl1=>?_⟩;have x1:=yab hl1 (.lst [V.int 15,V.int 63]);refine⟨_,rfl,_,_,rfl,rfl,show(0:Int)<4 by decide,rfl,.inr ⟨_,rfl,?_⟩⟩;obtain⟨most,hmost,hm63,em⟩:∃most:Nat,1<=most/\most<=63/\atI [V.int 15,V.int 63] (if decide (V.int ((way:Int)%4)=V.int 1)=true then 1 else 0)=some (Vn most):=by
  split
  ·exact⟨63,by decide,by decide,rfl⟩
  ·exact⟨15,by decide,by decide,rfl⟩
 refine⟨l1,_,_,Vn most,rfl,rfl,SqL.of yaa,em,?_⟩;refine⟨szl 2,λl2 hl2=>?_⟩;have x2:=yab hl2 (.lst [V.int 512,V.int 4096]);refine⟨_,rfl,rfl,.inr ⟨_,rfl,?_⟩⟩;obtain⟨L,hL,hL2,eL⟩:∃L:Nat,1<=L/\L<=4096/\atI [V.int 512,V.int 4096] (if decide (Vn way=V.int 5)=true then 1 else 0)=some (Vn L):=by
  split
  ·exact⟨4096,by decide,by decide,rfl⟩
  ·exact⟨512,by decide,by decide,rfl⟩
 refine⟨l2,_,_,Vn L,rfl,rfl,SqL.of yaa,eL,?_⟩;refine⟨_,_,rfl,?_⟩;have hP4:=(hP3.same x1).same x2;generalize upd (upd H3 l1 (.lst [V.int 15,V.int 63])) l2 (.lst [V.int 512,V.int 4096])=H4 at hP4 ⊢;refine⟨_,rfl,_,rfl,_,rfl,pu,g,most,L,rfl,hP4,hmost,hL,λr tb fa pa la wh mk p m t b few root n marks H5 er T ap hW nwh nmk W hle hP5 sx5=>?_⟩;refine⟨r,_,rfl,SqT.of er,rfl,_,_,rfl,_,_,rfl,rfl,?_⟩;have G:=T.good;have hp:=G.hp;have hm:=G.hm;have hQ:=G.hq;have hnq:=W.nq;have hn0:=W.ord.pos;have hml:=yg9 W.asc W.lt;have hm6:=m_le hp hQ;have hfm:few<=m:=Nat.le_of_dvd (by lia) (xBj W.fewm);have hqq:p^few<=64:=xAB (xAI (by lia) hfm) hQ;have hle2:(p^few)^(n-marks.length)<=4096:=xAB hle hL2;dsimp only[yau];refine⟨szl 1,λz0 hz0=>?_⟩;have y0:=yab hz0 (.lst [V.int 0]);refine⟨_,rfl,_,rfl,wh,_,_,Vn root,rfl,rfl,SqT.of (hW.same y0).w,rfl,tb,fa,pa,la,p,m,t,b,root,rfl,T.same y0,W.r0,W.rq,λn' o' _=>?_⟩;cases o'.uniq W.ord;refine⟨_,_,rfl,rfl,z0,_,_,rfl,rfl,yaa,by lia,by lia,by rw[show((n:Int)+1).toNat=n+1 by lia];exact szl _ (by simp;lia),λdl hdl=>?_⟩;rw[show((n:Int)+1).toNat=n+1 by lia,ybH,<-zex];have y1:=y0.trans (yab hdl (.lst ((hst n []).map Vn)));have dlH:H5 dl=none:=y0.free hdl;have edl:upd (upd H5 z0 (.lst [V.int 0])) dl (.lst ((hst n []).map Vn)) dl=some (.lst ((hst n []).map Vn)):=yaa;dsimp only[yau];change tSeq _ _ _ _ (upd (upd H5 z0 (.lst [V.int 0])) dl (.lst ((hst n []).map Vn)));generalize upd (upd H5 z0 (.lst [V.int 0])) dl (.lst ((hst n []).map Vn))=H6 at y1 edl ⊢;obtain⟨lw,elw⟩:∃lw,lw=lwL p m t root n marks few (n-marks.length):=⟨_,rfl⟩
 refine⟨_,rfl,_,rfl,tb,fa,pa,la,wh,mk,p,m,t,b,few,root,n,marks,rfl,T.same y1,hW.same y1,W.few1,by lia,W.fewm,W.r0,W.rq,W.ord,by lia,hml,hle2,λr2 ds H7 y7 er2 hT=>?_⟩;rw[<-elw]at hT;have hok:=zcM (root:=root) (marks:=marks) (few:=few) G (n-marks.length) (xA4 _);rw[<-elw]at hok;refine⟨r2,rfl,⟨_,SqL.of er2⟩,?_⟩;have ndl:r2≠dl:=λe=>by
  have h1:=y7 _ _ edl;rw[<-e,er2]at h1;have h2:=congrArg (λx=>match x with|some (HO.lst (V.int _::_))=>true|_=>false) h1;rw[zex]at h2;cases ds with
  |nil=>exact absurd h2 (by simp[xAH])
  |cons d ds=>exact absurd h2 (by simp[xAH])
 refine yaM (yaE (xs:=ds.map V.ref)) (λi σ H'=>Same H5 H'/\H' r2=some (.lst (ds.map V.ref))/\Tups H' ds lw/\H' dl=some (.lst ((hst n (lw.take i)).map Vn))/\∃v5 v9,σ=[some (.ref a),some (.ref pu),some (.int (0+(j:Int))),some (Vn way),some (Vn most),v5,some (.ref tb),some (.ref wh),some (.ref dl),v9]) ⟨y1.trans y7,er2,hT,y7 _ _ edl,_,_,rfl⟩ (λ_ _ _ _ h=>SqL.of h.2.1) ?_ ?_
 ·rintro i x σ H8 H8' hi ⟨y8,er8,hT8,e8,v5,v9,rfl⟩ ⟨rfl,ez⟩;rw[xA0,hT.1]at hi;obtain⟨d,ed,hd⟩:=hT8.get hi;rw[xA8,ed]at ez;cases ez;obtain⟨u,eu⟩:∃u,u=lw.getD i []:=⟨_,rfl⟩
  have hu:u∈lw:=by rw[eu];simp[List.getD,hi]
  have hul:=(hok u hu).1;rw[<-eu]at hd;have hwu:wt u<=n:=by have:=zgn u;rw[hul]at this;exact this
  dsimp only[yau];refine⟨_,rfl,d,rfl,⟨_,SqT.of hd⟩,?_⟩;refine yav (zbt (xs:=u.map Vn)) (λk acc H'=>H'=H8'/\acc=((u.take k).filter (·≠0)).map Vn) ⟨rfl,rfl⟩ (λi acc H' _ h=>h.1 ▸ SqT.of hd) ?_ ?_ ?_
  ·rintro k acc H' hk ⟨_,rfl⟩;have:=zgn (u.take k);rw[xAC]at this;rw[xA0];exact yao (by unfold wt at this;lia)
  ·rintro k acc z H9 H10 hk ⟨rfl,rfl⟩ ⟨rfl,ez⟩;obtain⟨hk',rfl⟩:=zfY ez;refine⟨_,rfl,rfl,_,rfl,?_⟩;have e:u.take (k+1)=u.take k++[u[k]]:=by rw[xBi hk']
   refine ite2 (λc=>?_) (λc=>?_)
   ·refine⟨_,rfl,rfl,?_⟩;have c':u[k]≠0:=by simpa using c
    rw[e,List.filter_append,xAe];simp[c']
   ·refine⟨rfl,?_⟩;have c':u[k]=0:=by simpa using c
    rw[e,List.filter_append];simp[c']
  rintro acc H9 ⟨rfl,rfl⟩ D hD;have y9:=yab hD (.lst (((u.take (u.map Vn).length).filter (·≠0)).map Vn));refine⟨D,_,rfl,.inl (SqL.of yaa),?_⟩;rw[xA0,xA0,xAJ];rw[xA0,xAJ]at y9;dsimp only[yau];change tAsg _ _ _ _ (upd H9 D (.lst ((u.filter (·≠0)).map Vn)));generalize upd H9 D (.lst ((u.filter (·≠0)).map Vn))=H10 at y9 ⊢;have e10:=y9 _ _ e8;have wl2:wt u<(hst n (lw.take i)).length:=by rw[yce];lia
  refine⟨_,rfl,_,rfl,dl,_,_,_,rfl,rfl,SqL.of e10,zaN (zav (i:=wt u) wl2),_,_,rfl,rfl,?_⟩;refine⟨_,rfl,_,rfl,dl,_,_,wt u,rfl,rfl,e10,by rw[xA0];exact zdL wl2,?_⟩;refine⟨ybf (y8.trans y9) dlH,by rw[yag ndl];exact y9 _ _ er8,Tups.at (hT8.same y9) e10,?_,_,_,rfl⟩;rw[yaa,za6 (d:=[]) hi,<-eu,<-zeM hwu,List.map_set];rfl
 ·rw[xA0,hT.1];rintro σ H8 ⟨y8,er8,hT8,e8,v5,v9,rfl⟩;rw[xAJ]at e8;have hWQ:WQ K wh fa mk p m t few root n (n-marks.length) marks H8:=⟨hW.same y8,SqT.of (T.same y8).f,G,W.r0,W.rq,W.ord,by lia,by lia,W.fewm,W.few1,hqq⟩
  have eh:hst n (wdL p m t root marks few (n-marks.length) (n-marks.length))=hst n lw:=by rw[elw];exact yeL (yfe G W (by lia))
  have dok:DOk (.tuple ((hst n lw).map λn:Nat=>PyData.int (n:Int))) (2^20):=yhg (zhS (by rw[elw,zdK,zer G W.fewm W.few1];exact hle2)) (by rw[yce];lia);have no:∀ {v:V},¬ (!decide (v=v))=true:=λ{v} h=>by rw[xAG rfl]at h;cases h
  refine⟨_,rfl,wh,fa,mk,p,m,t,few,root,n,n-marks.length,marks,rfl,hWQ,hle2,λc1 H9 y9 hc1=>?_⟩;rw[eh]at hc1;refine⟨c1,_,rfl,zdq (k:=8) hc1,dok,?_⟩;refine⟨_,rfl,dl,_,rfl,.inl ⟨SqL.of (y9 _ _ e8),λt1 ht1=>?_⟩⟩;have y10:=y9.trans (yab ht1 (.tup ((hst n lw).map Vn)));refine⟨t1,_,rfl,zdq (k:=8) (SqT.of yaa),dok,rfl,_,rfl,?_⟩;refine ite2 (λc=>absurd c no) (λ_=>?_);refine⟨_,rfl,wh,fa,mk,p,m,t,few,root,n,n-marks.length,marks,rfl,hWQ.same y10,hle2,λc2 H11 y11 hc2=>?_⟩;rw[eh]at hc2;refine⟨c2,_,rfl,zdq (k:=8) hc2,dok,?_⟩;refine⟨_,rfl,dl,_,rfl,.inl ⟨SqL.of (y11 _ _ (y10 _ _ e8)),λt2 ht2=>?_⟩⟩;refine⟨t2,_,rfl,zdq (k:=8) (SqT.of yaa),dok,rfl,_,rfl,?_⟩;refine ite2 (λc=>absurd c no) (λ_=>?_);exact⟨hP5.same (y8.trans ((y10.trans y11).trans (yab ht2 _))),_,_,_,_,_,_,_,_,rfl⟩
end
end My
end
section
-- text: Z31
namespace My
open PySem L2 Dg
theorem zgC{K:PySem.W.Frag}{H:Hp}{a:Addr}{ns:List Int}{E:XK}(hl:ns.length<=63)(hS:SqL K H a (ns.map V.int)):zdZ K [.ref a] H (λv _=>v = .bl true) E:=⟨a,ns,rfl,hS,λ_=>rfl⟩
noncomputable def DI(K:PySem.W.Frag)(f:Addr)(x:Str)(st:Stmt):Prop:=∃fd:FuncData,Fun K x x st f fd/\PySem.W.nsIn K mainGlobals x=some (some (.ref f))
theorem DI.mk{K:PySem.W.Frag}{x:Str}{st:Stmt}{f:Addr}{oc:Value}{od an:Option Addr}{osl:Array (Option Value)}{kV doc pm cdv ct:Value}(a:PySem.W.nsIn K mainGlobals x=some (some (.ref f)))(l:K.lookup f=some ⟨oc,od,.func (PySem.W.fnOf x x (yci st) (ybV st) (zae st) .none kV doc pm an cdv ct),osl⟩)(c:PySem.W.codeIn K cdv x=true)(k:PySem.W.keepIn K (.ref f)=true):DI K f x st:=⟨_,zgZ (st:=st) l c k,a⟩
theorem qn1{P:List Value->Prop}(h:∀a0,P [a0]):∀us:List Value,us.length=1->P us | [a0],_=>h a0
theorem qn2{P:List Value->Prop}(h:∀a0 a1,P [a0,a1]):∀us:List Value,us.length=2->P us | [a0,a1],_=>h a0 a1
theorem qn3{P:List Value->Prop}(h:∀a0 a1 a2,P [a0,a1,a2]):∀us:List Value,us.length=3->P us | [a0,a1,a2],_=>h a0 a1 a2
theorem all_mk{l:PySem.W.OpenLaw}{w:World}{K:PySem.W.Frag}{h:Heap}{mg:Str->Option Value}{fa:Addr}(X:K.In h)(G:h.Ns mainGlobals mg)(hfa:mg "law"=some (.ref fa))
  {f1:Addr} (q1:DI K f1 "number_power" zbi) {f2:Addr} (q2:DI K f2 "many_things" ybs) {f3:Addr} (q3:DI K f3 "plus" yf0) {f4:Addr} (q4:DI K f4 "digit_times" zbs) {f5:Addr} (q5:DI K f5 "minus" zet) {f6:Addr} (q6:DI K f6 "lifted" ydI) {f7:Addr} (q7:DI K f7 "times" zeu) {f8:Addr} (q8:DI K f8 "times_itself" ybg) {f9:Addr} (q9:DI K f9 "over" zfF) {f10:Addr} (q10:DI K f10 "power" zen) {f11:Addr} (q11:DI K f11 "round_of" zcd) {f12:Addr} (q12:DI K f12 "length" zdw) {f13:Addr} (q13:DI K f13 "letters" zb8) {f14:Addr} (q14:DI K f14 "word_sum" zbM) {f15:Addr} (q15:DI K f15 "word_times" zbe) {f16:Addr} (q16:DI K f16 "trimmed" ycY) {f17:Addr} (q17:DI K f17 "widened" ycZ) {f18:Addr} (q18:DI K f18 "row_times" zbV) {f19:Addr} (q19:DI K f19 "row_over" ycd) {f20:Addr} (q20:DI K f20 "row_of_roots" ybh) {f21:Addr} (q21:DI K f21 "maker" zeI) {f22:Addr} (q22:DI K f22 "free" yfy) {f23:Addr} (q23:DI K f23 "how_many" zch) {f24:Addr} (q24:DI K f24 "made" yeK) {f25:Addr} (q25:DI K f25 "words" zcJ) {f26:Addr} (q26:DI K f26 "weight" zcv) {f27:Addr} (q27:DI K f27 "counts" ydH) {f28:Addr} (q28:DI K f28 "_law_purse" ybE) {f29:Addr} (q29:DI K f29 "_law_pick" zbY) {f30:Addr} (q30:DI K f30 "_law_raised" ybt) {f31:Addr} (q31:DI K f31 "_law_digits" zby) {f32:Addr} (q32:DI K f32 "_law_number" zbx) {f33:Addr} (q33:DI K f33 "_law_product" ybl) {f34:Addr} (q34:DI K f34 "_law_is_good" zaY) {f35:Addr} (q35:DI K f35 "_law_field" ybb) {f36:Addr} (q36:DI K f36 "_law_table" zbc) {f37:Addr} (q37:DI K f37 "_law_plus" zbW) {f38:Addr} (q38:DI K f38 "_law_times" zbJ) {f39:Addr} (q39:DI K f39 "_law_minus" ybK) {f40:Addr} (q40:DI K f40 "_law_power" ybD) {f41:Addr} (q41:DI K f41 "_law_round" zbK) {f42:Addr} (q42:DI K f42 "_law_ring" ybX) {f43:Addr} (q43:DI K f43 "_law_wheel" zaD) {f44:Addr} (q44:DI K f44 "_law_letters" zaZ) {f45:Addr} (q45:DI K f45 "_law_maker" zbG) {f46:Addr} (q46:DI K f46 "_law_added" ybd) {f47:Addr} (q47:DI K f47 "_law_words" za1) {f48:Addr} (q48:DI K f48 "_law_small_wheel" yaS) {f49:Addr} (q49:DI K f49 "law" zd9)
  {tk_MOST_WORDS:Tok} (kk_MOST_WORDS:PySem.W.nsIn K mainGlobals "MOST_WORDS"=some (some (.int 4096 tk_MOST_WORDS)))
  (z1:PySem.W.nsIn K mainGlobals "range"=some none) (z2:PySem.W.nsIn K mainGlobals "len"=some none) (z3:PySem.W.nsIn K mainGlobals "abs"=some none) (z4:PySem.W.nsIn K mainGlobals "min"=some none) (z5:PySem.W.nsIn K mainGlobals "max"=some none) (z6:PySem.W.nsIn K mainGlobals "all"=some none) (z7:PySem.W.nsIn K mainGlobals "any"=some none) (z8:PySem.W.nsIn K mainGlobals "isinstance"=some none) (z9:PySem.W.nsIn K mainGlobals "int"=some none) (z10:PySem.W.nsIn K mainGlobals "bool"=some none) (z11:PySem.W.nsIn K mainGlobals "tuple"=some none) (z12:PySem.W.nsIn K mainGlobals "list"=some none) (z13:PySem.W.nsIn K mainGlobals "zip"=some none) (z14:PySem.W.nsIn K mainGlobals "enumerate"=some none) (z15:PySem.W.nsIn K mainGlobals "repr"=some none) (z16:PySem.W.nsIn K mainGlobals "dict"=some none) (z17:PySem.W.nsIn K mainGlobals "reversed"=some none) (z18:PySem.W.nsIn K mainGlobals "sorted"=some none) (z19:PySem.W.nsIn K mainGlobals "sum"=some none) (z20:PySem.W.nsIn K mainGlobals "set"=some none) (z21:PySem.W.nsIn K mainGlobals "str"=some none) :
  ∃fd:FuncData,(∀(s:Shared) (v:Value),BindsTo s fd ⟨[v],[]⟩ [("_law_script",v)])/\∀base:Heap,K.In base->base.Ns mainGlobals mg->FnOk l.prog w K mg base CX0 11 fa fd ["_law_script"] (zdZ K):=by
 obtain⟨_,F1,a1⟩:=q1;obtain⟨_,F2,a2⟩:=q2;obtain⟨_,F3,a3⟩:=q3;obtain⟨_,F4,a4⟩:=q4;obtain⟨_,F5,a5⟩:=q5;obtain⟨_,F6,a6⟩:=q6;obtain⟨_,F7,a7⟩:=q7;obtain⟨_,F8,a8⟩:=q8;obtain⟨_,F9,a9⟩:=q9;obtain⟨_,F10,a10⟩:=q10;obtain⟨_,F11,a11⟩:=q11;obtain⟨_,F12,a12⟩:=q12;obtain⟨_,F13,a13⟩:=q13;obtain⟨_,F14,a14⟩:=q14;obtain⟨_,F15,a15⟩:=q15;obtain⟨_,F16,a16⟩:=q16;obtain⟨_,F17,a17⟩:=q17;obtain⟨_,F18,a18⟩:=q18;obtain⟨_,F19,a19⟩:=q19;obtain⟨_,F20,a20⟩:=q20;obtain⟨_,F21,a21⟩:=q21;obtain⟨_,F22,a22⟩:=q22;obtain⟨_,F23,a23⟩:=q23;obtain⟨_,F24,a24⟩:=q24;obtain⟨_,F25,a25⟩:=q25;obtain⟨_,F26,a26⟩:=q26;obtain⟨_,F27,a27⟩:=q27;obtain⟨_,F28,a28⟩:=q28;obtain⟨_,F29,a29⟩:=q29;obtain⟨_,F30,a30⟩:=q30;obtain⟨_,F31,a31⟩:=q31;obtain⟨_,F32,a32⟩:=q32;obtain⟨_,F33,a33⟩:=q33;obtain⟨_,F34,a34⟩:=q34;obtain⟨_,F35,a35⟩:=q35;obtain⟨_,F36,a36⟩:=q36;obtain⟨_,F37,a37⟩:=q37;obtain⟨_,F38,a38⟩:=q38;obtain⟨_,F39,a39⟩:=q39;obtain⟨_,F40,a40⟩:=q40;obtain⟨_,F41,a41⟩:=q41;obtain⟨_,F42,a42⟩:=q42;obtain⟨_,F43,a43⟩:=q43;obtain⟨_,F44,a44⟩:=q44;obtain⟨_,F45,a45⟩:=q45;obtain⟨_,F46,a46⟩:=q46;obtain⟨_,F47,a47⟩:=q47;obtain⟨_,F48,a48⟩:=q48;obtain⟨_,⟨⟨oc,od,kV,dc,pm,an,cd,ct,sl,rfl,lL,cL⟩,kL⟩,aL⟩:=q49;have e:=hfa.symm.trans (xAi X G aL);cases e;have F49:=zgZ (st:=zd9) lL cL kL;have b1:=F1.binds (ps:=["base","many"]) λ_ _ _ _ _ _=>qn2 λ_ _=>rfl
 have b2:=F2.binds (ps:=["field"]) λ_ _ _ _ _ _=>qn1 λ_=>rfl
 have b3:=F3.binds (ps:=["field","one","other"]) λ_ _ _ _ _ _=>qn3 λ_ _ _=>rfl
 have b4:=F4.binds (ps:=["field","digit","one"]) λ_ _ _ _ _ _=>qn3 λ_ _ _=>rfl
 have b5:=F5.binds (ps:=["field","one","other"]) λ_ _ _ _ _ _=>qn3 λ_ _ _=>rfl
 have b6:=F6.binds (ps:=["field","one"]) λ_ _ _ _ _ _=>qn2 λ_ _=>rfl
 have b7:=F7.binds (ps:=["field","one","other"]) λ_ _ _ _ _ _=>qn3 λ_ _ _=>rfl
 have b8:=F8.binds (ps:=["field","one","many"]) λ_ _ _ _ _ _=>qn3 λ_ _ _=>rfl
 have b9:=F9.binds (ps:=["field","one","other"]) λ_ _ _ _ _ _=>qn3 λ_ _ _=>rfl
 have b10:=F10.binds (ps:=["field","one","many"]) λ_ _ _ _ _ _=>qn3 λ_ _ _=>rfl
 have b11:=F11.binds (ps:=["field","one"]) λ_ _ _ _ _ _=>qn2 λ_ _=>rfl
 have b12:=F12.binds (ps:=["wheel"]) λ_ _ _ _ _ _=>qn1 λ_=>rfl
 have b13:=F13.binds (ps:=["field","few"]) λ_ _ _ _ _ _=>qn2 λ_ _=>rfl
 have b14:=F14.binds (ps:=["field","one","other"]) λ_ _ _ _ _ _=>qn3 λ_ _ _=>rfl
 have b15:=F15.binds (ps:=["field","one","word"]) λ_ _ _ _ _ _=>qn3 λ_ _ _=>rfl
 have b16:=F16.binds (ps:=["things"]) λ_ _ _ _ _ _=>qn1 λ_=>rfl
 have b17:=F17.binds (ps:=["row","many"]) λ_ _ _ _ _ _=>qn2 λ_ _=>rfl
 have b18:=F18.binds (ps:=["field","one","other"]) λ_ _ _ _ _ _=>qn3 λ_ _ _=>rfl
 have b19:=F19.binds (ps:=["field","one","other"]) λ_ _ _ _ _ _=>qn3 λ_ _ _=>rfl
 have b20:=F20.binds (ps:=["field","root","powers"]) λ_ _ _ _ _ _=>qn3 λ_ _ _=>rfl
 have b21:=F21.binds (ps:=["wheel"]) λ_ _ _ _ _ _=>qn1 λ_=>rfl
 have b22:=F22.binds (ps:=["wheel"]) λ_ _ _ _ _ _=>qn1 λ_=>rfl
 have b23:=F23.binds (ps:=["wheel"]) λ_ _ _ _ _ _=>qn1 λ_=>rfl
 have b24:=F24.binds (ps:=["wheel","given"]) λ_ _ _ _ _ _=>qn2 λ_ _=>rfl
 have b25:=F25.binds (ps:=["wheel"]) λ_ _ _ _ _ _=>qn1 λ_=>rfl
 have b26:=F26.binds (ps:=["word"]) λ_ _ _ _ _ _=>qn1 λ_=>rfl
 have b27:=F27.binds (ps:=["wheel"]) λ_ _ _ _ _ _=>qn1 λ_=>rfl
 have b28:=F28.binds (ps:=["_law_script"]) λ_ _ _ _ _ _=>qn1 λ_=>rfl
 have b29:=F29.binds (ps:=["_law_purse_here","_law_many"]) λ_ _ _ _ _ _=>qn2 λ_ _=>rfl
 have b30:=F30.binds (ps:=["_law_one","_law_many"]) λ_ _ _ _ _ _=>qn2 λ_ _=>rfl
 have b31:=F31.binds (ps:=["_law_field_here","_law_thing"]) λ_ _ _ _ _ _=>qn2 λ_ _=>rfl
 have b32:=F32.binds (ps:=["_law_field_here","_law_digits_here"]) λ_ _ _ _ _ _=>qn2 λ_ _=>rfl
 have b33:=F33.binds (ps:=["_law_field_here","_law_one","_law_other"]) λ_ _ _ _ _ _=>qn3 λ_ _ _=>rfl
 have b34:=F34.binds (ps:=["_law_field_here"]) λ_ _ _ _ _ _=>qn1 λ_=>rfl
 have b35:=F35.binds (ps:=["_law_purse_here"]) λ_ _ _ _ _ _=>qn1 λ_=>rfl
 have b36:=F36.binds (ps:=["_law_field_here"]) λ_ _ _ _ _ _=>qn1 λ_=>rfl
 have b37:=F37.binds (ps:=["_law_table_here","_law_one","_law_other"]) λ_ _ _ _ _ _=>qn3 λ_ _ _=>rfl
 have b38:=F38.binds (ps:=["_law_table_here","_law_one","_law_other"]) λ_ _ _ _ _ _=>qn3 λ_ _ _=>rfl
 have b39:=F39.binds (ps:=["_law_table_here","_law_one","_law_other"]) λ_ _ _ _ _ _=>qn3 λ_ _ _=>rfl
 have b40:=F40.binds (ps:=["_law_table_here","_law_one","_law_many"]) λ_ _ _ _ _ _=>qn3 λ_ _ _=>rfl
 have b41:=F41.binds (ps:=["_law_table_here","_law_one"]) λ_ _ _ _ _ _=>qn2 λ_ _=>rfl
 have b42:=F42.binds (ps:=["_law_i","_law_n","_law_q"]) λ_ _ _ _ _ _=>qn3 λ_ _ _=>rfl
 have b43:=F43.binds (ps:=["_law_purse_here","_law_most"]) λ_ _ _ _ _ _=>qn2 λ_ _=>rfl
 have b44:=F44.binds (ps:=["_law_table_here","_law_few"]) λ_ _ _ _ _ _=>qn2 λ_ _=>rfl
 have b45:=F45.binds (ps:=["_law_table_here","_law_wheel_here"]) λ_ _ _ _ _ _=>qn2 λ_ _=>rfl
 have b46:=F46.binds (ps:=["_law_table_here","_law_one","_law_other"]) λ_ _ _ _ _ _=>qn3 λ_ _ _=>rfl
 have b47:=F47.binds (ps:=["_law_table_here","_law_wheel_here"]) λ_ _ _ _ _ _=>qn2 λ_ _=>rfl
 have b48:=F48.binds (ps:=["_law_purse_here","_law_most","_law_listed"]) λ_ _ _ _ _ _=>qn3 λ_ _ _=>rfl
 have B:Bl mg:=List.forall_mem_cons.mpr ⟨xAu X G z1,List.forall_mem_cons.mpr ⟨xAu X G z2,List.forall_mem_cons.mpr ⟨xAu X G z3,List.forall_mem_cons.mpr ⟨xAu X G z4,List.forall_mem_cons.mpr ⟨xAu X G z5,List.forall_mem_cons.mpr ⟨xAu X G z6,List.forall_mem_cons.mpr ⟨xAu X G z7,List.forall_mem_cons.mpr ⟨xAu X G z8,List.forall_mem_cons.mpr ⟨xAu X G z9,List.forall_mem_cons.mpr ⟨xAu X G z10,List.forall_mem_cons.mpr ⟨xAu X G z11,List.forall_mem_cons.mpr ⟨xAu X G z12,List.forall_mem_cons.mpr ⟨xAu X G z13,List.forall_mem_cons.mpr ⟨xAu X G z14,List.forall_mem_cons.mpr ⟨xAu X G z15,List.forall_mem_cons.mpr ⟨xAu X G z16,List.forall_mem_cons.mpr ⟨xAu X G z17,List.forall_mem_cons.mpr ⟨xAu X G z18,List.forall_mem_cons.mpr ⟨xAu X G z19,List.forall_mem_cons.mpr ⟨xAu X G z20,List.forall_mem_cons.mpr ⟨xAu X G z21,λ_ h=>nomatch h⟩⟩⟩⟩⟩⟩⟩⟩⟩⟩⟩⟩⟩⟩⟩⟩⟩⟩⟩⟩⟩
 have m_MOST_WORDS:=xAi X G kk_MOST_WORDS;refine⟨PySem.W.fnOf "law" "law" (yci zd9) (ybV zd9) (zae zd9) .none kV dc pm an cd ct,λs v=>.of_eq rfl,λbase _ _=>?_⟩;have xC1:Has l.prog w K mg base 1 "number_power" ["base","many"] _:=⟨f1,_,zcz (P:=l.prog) (w:=w) (base:=base) B  F1,b1,F1.2,xAi X G a1⟩
 have xBZ:Has l.prog w K mg base 2 "many_things" ["field"] _:=⟨f2,_,yhq (P:=l.prog) (w:=w) (base:=base) B xC1 F2,b2,F2.2,xAi X G a2⟩
 have xC3:Has l.prog w K mg base 1 "plus" ["field","one","other"] _:=⟨f3,_,yhI (P:=l.prog) (w:=w) (base:=base) B  F3,b3,F3.2,xAi X G a3⟩
 have xBR:Has l.prog w K mg base 1 "digit_times" ["field","digit","one"] _:=⟨f4,_,yc0 (P:=l.prog) (w:=w) (base:=base) B  F4,b4,F4.2,xAi X G a4⟩
 have xC0:Has l.prog w K mg base 2 "minus" ["field","one","other"] _:=⟨f5,_,ygl (P:=l.prog) (w:=w) (base:=base) B xC3 xBR F5,b5,F5.2,xAi X G a5⟩
 have xBW:Has l.prog w K mg base 2 "lifted" ["field","one"] _:=⟨f6,_,yfY (P:=l.prog) (w:=w) (base:=base) B xC3 xBR xC1 F6,b6,F6.2,xAi X G a6⟩
 have xC9:Has l.prog w K mg base 3 "times" ["field","one","other"] _:=⟨f7,_,ygS (P:=l.prog) (w:=w) (base:=base) B xC3 xBR xBW F7,b7,F7.2,xAi X G a7⟩
 have xCa:Has l.prog w K mg base 4 "times_itself" ["field","one","many"] _:=⟨f8,_,yfV (P:=l.prog) (w:=w) (base:=base) B xC9 F8,b8,F8.2,xAi X G a8⟩
 have xC2:Has l.prog w K mg base 5 "over" ["field","one","other"] _:=⟨f9,_,zhC (P:=l.prog) (w:=w) (base:=base) B xC9 xCa xBZ F9,b9,F9.2,xAi X G a9⟩
 have xC4:Has l.prog w K mg base 5 "power" ["field","one","many"] _:=⟨f10,_,zgK (P:=l.prog) (w:=w) (base:=base) B xCa xBZ F10,b10,F10.2,xAi X G a10⟩
 have xC5:Has l.prog w K mg base 4 "round_of" ["field","one"] _:=⟨f11,_,ygz (P:=l.prog) (w:=w) (base:=base) B xC9 F11,b11,F11.2,xAi X G a11⟩
 have xBU:Has l.prog w K mg base 5 "length" ["wheel"] _:=⟨f12,_,ygc (P:=l.prog) (w:=w) (base:=base) B xC5 F12,b12,F12.2,xAi X G a12⟩
 have xBV:Has l.prog w K mg base 6 "letters" ["field","few"] _:=⟨f13,_,zfk (P:=l.prog) (w:=w) (base:=base) B xC1 xC4 xBZ F13,b13,F13.2,xAi X G a13⟩
 have xCe:Has l.prog w K mg base 2 "word_sum" ["field","one","other"] _:=⟨f14,_,yel (P:=l.prog) (w:=w) (base:=base) B xC3 F14,b14,F14.2,xAi X G a14⟩
 have xCf:Has l.prog w K mg base 4 "word_times" ["field","one","word"] _:=⟨f15,_,zdh (P:=l.prog) (w:=w) (base:=base) B xC9 F15,b15,F15.2,xAi X G a15⟩
 have xCb:Has l.prog w K mg base 1 "trimmed" ["things"] _:=⟨f16,_,zgu (P:=l.prog) (w:=w) (base:=base) B  F16,b16,F16.2,xAi X G a16⟩
 have xCd:Has l.prog w K mg base 1 "widened" ["row","many"] _:=⟨f17,_,yh2 (P:=l.prog) (w:=w) (base:=base) B  F17,b17,F17.2,xAi X G a17⟩
 have xC8:Has l.prog w K mg base 4 "row_times" ["field","one","other"] _:=⟨f18,_,yfI (P:=l.prog) (w:=w) (base:=base) B xC3 xC9 (zia xCb) F18,b18,F18.2,xAi X G a18⟩
 have xC7:Has l.prog w K mg base 6 "row_over" ["field","one","other"] _:=⟨f19,_,zgm (P:=l.prog) (w:=w) (base:=base) B xC2 xC0 xC9 (zia xCb) F19,b19,F19.2,xAi X G a19⟩
 have xC6:Has l.prog w K mg base 6 "row_of_roots" ["field","root","powers"] _:=⟨f20,_,zhW (P:=l.prog) (w:=w) (base:=base) B xC8 xC0 xC4 F20,b20,F20.2,xAi X G a20⟩
 have xBY:Has l.prog w K mg base 7 "maker" ["wheel"] _:=⟨f21,_,ygG (P:=l.prog) (w:=w) (base:=base) B xC6 F21,b21,F21.2,xAi X G a21⟩
 have xBS:Has l.prog w K mg base 6 "free" ["wheel"] _:=⟨f22,_,yhf (P:=l.prog) (w:=w) (base:=base) B xBU F22,b22,F22.2,xAi X G a22⟩
 have xBT:Has l.prog w K mg base 7 "how_many" ["wheel"] _:=⟨f23,_,zgS (P:=l.prog) (w:=w) (base:=base) B xC1 xBS F23,b23,F23.2,xAi X G a23⟩
 have xBX:Has l.prog w K mg base 8 "made" ["wheel","given"] _:=⟨f24,_,yhh (P:=l.prog) (w:=w) (base:=base) B xC7 xCb xBY xC0 xCd F24,b24,F24.2,xAi X G a24⟩
 have xCg:Has l.prog w K mg base 9 "words" ["wheel"] _:=⟨f25,_,ygq (P:=l.prog) (w:=w) (base:=base) m_MOST_WORDS B xBT xBV xBS xBX xCf xCe F25,b25,F25.2,xAi X G a25⟩
 have xCc:Has l.prog w K mg base 1 "weight" ["word"] _:=⟨f26,_,yf3 (P:=l.prog) (w:=w) (base:=base) B  F26,b26,F26.2,xAi X G a26⟩
 have xBQ:Has l.prog w K mg base 10 "counts" ["wheel"] _:=⟨f27,_,zfH (P:=l.prog) (w:=w) (base:=base) B xBU xCg xCc F27,b27,F27.2,xAi X G a27⟩
 have xBH:Has l.prog w K mg base 1 "_law_purse" ["_law_script"] _:=⟨f28,_,zgL (P:=l.prog) (w:=w) (base:=base) B  F28,b28,F28.2,xAi X G a28⟩
 have xBD:Has l.prog w K mg base 1 "_law_pick" ["_law_purse_here","_law_many"] _:=⟨f29,_,yhm (P:=l.prog) (w:=w) (base:=base) B  F29,b29,F29.2,xAi X G a29⟩
 have xBI:Has l.prog w K mg base 1 "_law_raised" ["_law_one","_law_many"] _:=⟨f30,_,zfs (P:=l.prog) (w:=w) (base:=base) B  F30,b30,F30.2,xAi X G a30⟩
 have xBw:Has l.prog w K mg base 1 "_law_digits" ["_law_field_here","_law_thing"] _:=⟨f31,_,zfQ (P:=l.prog) (w:=w) (base:=base) B  F31,b31,F31.2,xAi X G a31⟩
 have xBC:Has l.prog w K mg base 1 "_law_number" ["_law_field_here","_law_digits_here"] _:=⟨f32,_,zfI (P:=l.prog) (w:=w) (base:=base) B  F32,b32,F32.2,xAi X G a32⟩
 have xBG:Has l.prog w K mg base 2 "_law_product" ["_law_field_here","_law_one","_law_other"] _:=⟨f33,_,yfc (P:=l.prog) (w:=w) (base:=base) B xBw xBC F33,b33,F33.2,xAi X G a33⟩
 have xBy:Has l.prog w K mg base 3 "_law_is_good" ["_law_field_here"] _:=⟨f34,_,zhn (P:=l.prog) (w:=w) (base:=base) B xBI xBG F34,b34,F34.2,xAi X G a34⟩
 have xBx:Has l.prog w K mg base 4 "_law_field" ["_law_purse_here"] _:=⟨f35,_,zgx (P:=l.prog) (w:=w) (base:=base) B xBD xBI xBy F35,b35,F35.2,xAi X G a35⟩
 have xBM:Has l.prog w K mg base 3 "_law_table" ["_law_field_here"] _:=⟨f36,_,zgF (P:=l.prog) (w:=w) (base:=base) B xBI xBG F36,b36,F36.2,xAi X G a36⟩
 have xBE:Has l.prog w K mg base 1 "_law_plus" ["_law_table_here","_law_one","_law_other"] _:=⟨f37,_,zgR (P:=l.prog) (w:=w) (base:=base) B  F37,b37,F37.2,xAi X G a37⟩
 have xBN:Has l.prog w K mg base 1 "_law_times" ["_law_table_here","_law_one","_law_other"] _:=⟨f38,_,zfP (P:=l.prog) (w:=w) (base:=base) B  F38,b38,F38.2,xAi X G a38⟩
 have xBB:Has l.prog w K mg base 2 "_law_minus" ["_law_table_here","_law_one","_law_other"] _:=⟨f39,_,zfX (P:=l.prog) (w:=w) (base:=base) B xBE xBN F39,b39,F39.2,xAi X G a39⟩
 have xBF:Has l.prog w K mg base 1 "_law_power" ["_law_table_here","_law_one","_law_many"] _:=⟨f40,_,zgl (P:=l.prog) (w:=w) (base:=base) B  F40,b40,F40.2,xAi X G a40⟩
 have xBK:Has l.prog w K mg base 2 "_law_round" ["_law_table_here","_law_one"] _:=⟨f41,_,zfL (P:=l.prog) (w:=w) (base:=base) B xBN F41,b41,F41.2,xAi X G a41⟩
 have xBJ:Has l.prog w K mg base 1 "_law_ring" ["_law_i","_law_n","_law_q"] _:=⟨f42,_,zgp (P:=l.prog) (w:=w) (base:=base) B  F42,b42,F42.2,xAi X G a42⟩
 have xBO:Has l.prog w K mg base 5 "_law_wheel" ["_law_purse_here","_law_most"] _:=⟨f43,_,yfn (P:=l.prog) (w:=w) (base:=base) B xBD xBx xBM xBI xBK xBJ F43,b43,F43.2,xAi X G a43⟩
 have xBz:Has l.prog w K mg base 2 "_law_letters" ["_law_table_here","_law_few"] _:=⟨f44,_,yeH (P:=l.prog) (w:=w) (base:=base) B xBI xBF F44,b44,F44.2,xAi X G a44⟩
 have xBA:Has l.prog w K mg base 3 "_law_maker" ["_law_table_here","_law_wheel_here"] _:=⟨f45,_,zgd (P:=l.prog) (w:=w) (base:=base) B xBF xBB xBN F45,b45,F45.2,xAi X G a45⟩
 have xBv:Has l.prog w K mg base 2 "_law_added" ["_law_table_here","_law_one","_law_other"] _:=⟨f46,_,yhj (P:=l.prog) (w:=w) (base:=base) B xBE F46,b46,F46.2,xAi X G a46⟩
 have xBP:Has l.prog w K mg base 4 "_law_words" ["_law_table_here","_law_wheel_here"] _:=⟨f47,_,zfC (P:=l.prog) (w:=w) (base:=base) B xBK xBA xBz xBN xBv F47,b47,F47.2,xAi X G a47⟩
 have xBL:Has l.prog w K mg base 6 "_law_small_wheel" ["_law_purse_here","_law_most","_law_listed"] _:=⟨f48,_,yfB (P:=l.prog) (w:=w) (base:=base) B xBO xBK xBI xBD xBJ F48,b48,F48.2,xAi X G a48⟩
 exact zhX (P:=l.prog) (w:=w) (base:=base) B xBH xBD xBL xBK xBP xBQ F49
theorem walk{l:PySem.W.OpenLaw}{q:Program}{loose:List Str}{XP:(Str->Option Value)->Heap->Prop}{YP:World->Heap->Prop}{d:DefRec}{K:Params->PySem.W.Frag}(hn:l.most=some 63)(hdf:d.params.defaults=[])
  (hY:∀(w:World) (h:Heap),YP w h->(K w.params).In h)
  (F:∀(w:World) (mg:Str->Option Value) (fa:Addr) (h:Heap),(K w.params).In h->h.Ns mainGlobals mg->mg d.name=some (.ref fa)->
   ∃fd:FuncData,(∀(s:Shared) (u:Value),BindsTo s fd ⟨[u],[]⟩ [("_law_script",u)])/\∀base:Heap,(K w.params).In base->base.Ns mainGlobals mg->FnOk l.prog w (K w.params) mg base CX0 11 fa fd ["_law_script"] (zdZ (K w.params))) :
  PySem.W.WalkO q loose XP YP l.row.toRowW d [] (λf vs=>PySem.call f vs) :=
 L2.walk_of (n:=63) (k:=11) (x:="_law_script") (CX:=λ_=>CX0) (sp:=λw=>zdZ (K w.params)) hn (by decide) hdf ⟨rfl,by decide,by decide,rfl⟩ hY F (λ_ _ a ns hl _ hS=>zgC hl hS) λ_ _ _ _ _ z=>z
end My
namespace PySem.W.Fast
noncomputable def tw9780569956351958382:=0
noncomputable def tw15728274694987436417:=0
noncomputable def tw16070773980358759503:=0
noncomputable def tw6666278196698361645:=0
noncomputable def tw11438012078125936070:=0
noncomputable def tw18057009798322288787:=0
noncomputable def tw12037165398906514575:=0
noncomputable def tw16772282890437723766:=0
noncomputable def tw6653890291210071388:=0
noncomputable def tw15964908978080118464:=0
noncomputable def tw13712428157630458861:=0
noncomputable def tw17027170792876280873:=0
noncomputable def tw10782522822963196520:=0
noncomputable def tw17165536095652563517:=0
noncomputable def tw14544925346036842497:=0
noncomputable def tw1697062673972265563:=0
noncomputable def tw10567435121513114700:=0
noncomputable def tw14891867530418692679:=0
noncomputable def tw1628966870217532206:=0
noncomputable def tw13752248321854184908:=0
noncomputable def tw14366965737361097325:=0
noncomputable def tw7869356988632636037:=0
noncomputable def tw3970443231503041592:=0
noncomputable def tw5271926911104049390:=0
noncomputable def tw7927103836902232536:=0
noncomputable def tw15879452314537534113:=0
noncomputable def tw14498444420917405809:=0
noncomputable def tw2172714925427866772:=0
noncomputable def tw15178491824523688713:=0
noncomputable def tw13180580548557834093:=0
noncomputable def tw17049708252914705191:=0
noncomputable def tw3788336722786193639:=0
noncomputable def tw10230786316496140795:=0
noncomputable def tw4789473243074915763:=0
noncomputable def tw1736478334299019373:=0
noncomputable def tw100269301300960031:=0
noncomputable def tw4583384914229819222:=0
noncomputable def tw5091434052328807460:=0
noncomputable def tw8670630066562030555:=0
noncomputable def tw7509228520535785978:=0
noncomputable def tw1693276648095547510:=0
noncomputable def tw15284934598155724360:=0
noncomputable def tw16744257073180927983:=0
noncomputable def tw2629796364807441372:=0
noncomputable def tw5399905838205181833:=0
noncomputable def tw5369329834550860405:=0
noncomputable def tw5261743379457317075:=0
noncomputable def tw3010874962545825031:=0
noncomputable def tw3764794794510602116:=0
noncomputable def tw1094874836633540778:=0
noncomputable def tw8525431538051684804:=0
noncomputable def tw15240401278847625249:=0
noncomputable def tw5937872637845456588:=0
noncomputable def tw18229060573774465298:=0
noncomputable def tw7778305690386240331:=0
noncomputable def tw13673102514922997010:=0
noncomputable def tw13389126891955648150:=0
noncomputable def tw2863615721137848427:=0
noncomputable def tw1989766576964841615:=0
noncomputable def tw11643120547244817838:=0
noncomputable def tw11315178618484454857:=0
noncomputable def tw7816970688382585694:=0
noncomputable def tw11242215654423397387:=0
noncomputable def tw784433656301008966:=0
noncomputable def tw7061605008109435067:=0
noncomputable def tw2619793334499558096:=0
noncomputable def tw16071663014158526589:=0
noncomputable def tw6357894684372667395:=0
noncomputable def tw774580437887678378:=0
noncomputable def tw2222604708146485261:=0
noncomputable def tw5749261736693603533:=0
noncomputable def tw17436118710461873574:=0
noncomputable def tw3442750101117913840:=0
noncomputable def tw5123710520644109234:=0
noncomputable def tw10727415698845093453:=0
noncomputable def tw7797306673685611662:=0
noncomputable def tw12485248277494983325:=0
noncomputable def tw5573917603302770860:=0
noncomputable def tw6358764809956818970:=0
noncomputable def tw13638667535008966634:=0
noncomputable def tw7131982313931497995:=0
noncomputable def tw5850807976205232284:=0
noncomputable def tw3925182214604746634:=0
noncomputable def tw15766193830742652747:=0
noncomputable def tw4484646800283012412:=0
noncomputable def tw3816087409383668599:=0
noncomputable def tw8731410771976108532:=0
noncomputable def tw12667889622658883197:=0
noncomputable def tw4980713905058978032:=0
noncomputable def tw12965176183379915355:=0
noncomputable def tw134852655213567940:=0
noncomputable def tw11573848304237669252:=0
noncomputable def tw16380615428114320276:=0
noncomputable def tw7441522608853109756:=0
noncomputable def tw6737158580377951866:=0
noncomputable def tw9900660292201589314:=0
noncomputable def tw328697391084260841:=0
noncomputable def tw15826609811248318395:=0
noncomputable def tw14316009013085621641:=0
noncomputable def tw12343239294916484542:=0
noncomputable def tw13761585973348619419:=0
noncomputable def tw12784291953892383848:=0
noncomputable def tw1494973069251626699:=0
noncomputable def tw16954689933236664711:=0
noncomputable def tw18121934974250799133:=0
noncomputable def tw15480689025152794265:=0
noncomputable def tw11831690189299435713:=0
noncomputable def tw1290602713735854293:=0
noncomputable def tw1428359296779784947:=0
noncomputable def tw1891550601359479624:=0
noncomputable def tw2541772262668715843:=0
noncomputable def tw5906020740596124045:=0
noncomputable def tw16252699619814927107:=0
noncomputable def tw9902058897858346053:=0
noncomputable def tw3158921662158882163:=0
noncomputable def tw4088512164739469257:=0
noncomputable def tw10899793680388069584:=0
noncomputable def tw8428216085940002838:=0
noncomputable def tw15140054762369525619:=0
noncomputable def tw89823324805852351:=0
noncomputable def tw6128330944065067269:=0
noncomputable def tw10359172399601362765:=0
noncomputable def tw5200204473710415675:=0
noncomputable def tw16737686296228954040:=0
noncomputable def tw3228124914676431631:=0
noncomputable def tw6946887666526495677:=0
noncomputable def tw9653965404564950552:=0
noncomputable def tw4803053064114244520:=0
noncomputable def tw6572572396638920002:=0
noncomputable def tw7101701071722961349:=0
noncomputable def tw7527134451103033648:=0
noncomputable def tw16777283994661065869:=0
noncomputable def tw16945941702684097680:=0
noncomputable def tw14087841999922088636:=0
noncomputable def tw625702410989220370:=0
noncomputable def tw7885288087608438847:=0
noncomputable def tw2146276518683759451:=0
noncomputable def tw4033001776326585427:=0
noncomputable def tw13175704371186149916:=0
noncomputable def tw516449242538816622:=0
noncomputable def tw1992692086904065650:=0
noncomputable def tw5512821260987564877:=0
noncomputable def tw17280331358255896709:=0
noncomputable def tw13422702657838471097:=0
noncomputable def tw3211488775681162021:=0
noncomputable def tw4020207609662545718:=0
noncomputable def tw6281800179731368327:=0
noncomputable def tw15406750974124059252:=0
noncomputable def tw6687867050266417694:=0
noncomputable def tw12440646363621394279:=0
noncomputable def tw12727778090088396574:=0
noncomputable def tw12418829970512829940:=0
noncomputable def tw7743768121358978708:=0
noncomputable def tw5134589033351058180:=0
noncomputable def tw7282864782695727333:=0
noncomputable def tw4746462146485190895:=0
noncomputable def tw7152247291191191701:=0
noncomputable def tw9798275107588145744:=0
noncomputable def tw17496392764072459276:=0
noncomputable def tw8553654557910680104:=0
noncomputable def tw5263131929375149324:=0
noncomputable def tw17394443454216120932:=0
noncomputable def tw13875180598451189008:=0
noncomputable def tw16380296661021459374:=0
noncomputable def tw1979818777002275325:=0
noncomputable def tw5321782669821853838:=0
noncomputable def tw8496451054291671949:=0
noncomputable def tw17608110581430097265:=0
noncomputable def tw930669293130034533:=0
noncomputable def tw4312490601334039986:=0
noncomputable def tw11650173082353028504:=0
noncomputable def tw4538590328148028295:=0
noncomputable def tw6517726807668084004:=0
noncomputable def tw9617242454354896311:=0
noncomputable def tw18075076490960137387:=0
noncomputable def tw1949183157481690144:=0
noncomputable def tw6677172941794047009:=0
noncomputable def tw5907926567869948977:=0
noncomputable def tw9194013594514697503:=0
noncomputable def tw17606796512133540635:=0
noncomputable def tw3418410373884389709:=0
noncomputable def tw2689115714831766360:=0
noncomputable def tw15836762906508470122:=0
noncomputable def tw11389811384398208879:=0
noncomputable def tw1547658985914758800:=0
noncomputable def tw10121891809376526209:=0
noncomputable def tw7403625306862865514:=0
noncomputable def tw13440327471164346459:=0
noncomputable def tw9177897227967979128:=0
noncomputable def tw11591641148270384181:=0
noncomputable def tw1489671885409298075:=0
noncomputable def tw11933505073572601895:=0
noncomputable def tw11080250947006849599:=0
noncomputable def tw9698498240497061715:=0
noncomputable def tw6160088975548147739:=0
noncomputable def tw17255864767354649484:=0
noncomputable def tw11469263623649955422:=0
noncomputable def tw12872722500757692504:=0
noncomputable def tw6666797326730950117:=0
noncomputable def tw2318101622290139305:=0
noncomputable def tw2802393901011257409:=0
noncomputable def tw4428403031278718552:=0
noncomputable def tw2264457709465266652:=0
noncomputable def tw9235274067153330326:=0
noncomputable def tw391138709742874463:=0
noncomputable def tw5163258998901344499:=0
noncomputable def tw16493317061924277345:=0
noncomputable def tw1709954134418486423:=0
noncomputable def tw13094989147175838670:=0
noncomputable def tw17382698934482418389:=0
noncomputable def tw17506601764555749604:=0
noncomputable def tw13003592192116856374:=0
noncomputable def tw5557398875992870235:=0
noncomputable def tw15199386713156685041:=0
noncomputable def tw1719916607221671369:=0
noncomputable def tw9809936799066034390:=0
noncomputable def tw9648972482911781953:=0
noncomputable def tw9905412555063807940:=0
noncomputable def tw11699835149761645165:=0
noncomputable def tw11579362703708468386:=0
noncomputable def tw8700333612349209678:=0
noncomputable def tw11888288365615522500:=0
noncomputable def tw2575753213581366737:=0
noncomputable def tw15776418618110765402:=0
noncomputable def tw10312960172913142006:=0
noncomputable def tw6160092057757335015:=0
noncomputable def tw10664554558653487390:=0
noncomputable def tw15575654283986937670:=0
noncomputable def tw12621177651076256503:=0
noncomputable def tw8042877093931405155:=0
noncomputable def tw2736389927905331609:=0
noncomputable def tw6635951505862404700:=0
noncomputable def tw12398639931514331332:=0
noncomputable def tw6814939768131442931:=0
noncomputable def tw7638110655474751557:=0
noncomputable def tw18233435226939632008:=0
noncomputable def tw10781799789060919263:=0
noncomputable def tw3096641847167641334:=0
noncomputable def tw182458162453954081:=0
noncomputable def tw9081761013685650770:=0
noncomputable def tw12714749450847663851:=0
noncomputable def tw2666593001821356941:=0
noncomputable def tw12009141502854636136:=0
noncomputable def tw15832009956494210623:=0
noncomputable def tw8775288218784358756:=0
noncomputable def tw14460294586399292417:=0
noncomputable def tw1344261393288953948:=0
noncomputable def tw3501872746847691064:=0
noncomputable def tw8883602952505658828:=0
noncomputable def tw13682426169987555046:=0
noncomputable def tw15798826989706305050:=0
noncomputable def tw11655545353175814174:=0
noncomputable def tw5858066225261948813:=0
noncomputable def tw1512385897405971874:=0
noncomputable def tw7787966530612974155:=0
noncomputable def tw2111121480304140870:=0
noncomputable def tw12426907524825287218:=0
noncomputable def tw1927187815566421780:=0
noncomputable def tw6813341468683510684:=0
noncomputable def tw16737617781091098234:=0
noncomputable def tw5327598629481004374:=0
noncomputable def tw16375767643351269522:=0
noncomputable def tw6675587323608203974:=0
noncomputable def tw4946511061320474614:=0
noncomputable def tw16553573623332065353:=0
noncomputable def tw1333368429487794696:=0
noncomputable def tw17061193314279176799:=0
noncomputable def tw4021324436928473307:=0
noncomputable def tw14859623491341422433:=0
noncomputable def tw10363618445709983567:=0
noncomputable def tw713927307096931690:=0
noncomputable def tw7827567821663348997:=0
noncomputable def tw12888527949660790186:=0
noncomputable def tw5805924888424557005:=0
noncomputable def tw10923236139200239968:=0
noncomputable def tw15789448161159828948:=0
noncomputable def tw13693977014758266512:=0
noncomputable def tw2194013243596348861:=0
noncomputable def tw10992433221319921602:=0
noncomputable def tw14052684628463363139:=0
noncomputable def tw17550118353456624511:=0
noncomputable def tw856982533101763261:=0
noncomputable def tw14684874300166060738:=0
noncomputable def tw16086917851097557354:=0
noncomputable def tw6763305459526257941:=0
noncomputable def tw5093405407399917605:=0
noncomputable def tw3544285358142545393:=0
noncomputable def tw5982325144079108507:=0
noncomputable def tw18027085882373614674:=0
noncomputable def tw678965886107022805:=0
noncomputable def tw13260614330622455355:=0
noncomputable def tw13622402165070853398:=0
noncomputable def tw6308506546367713918:=0
noncomputable def tw17423562321352064364:=0
noncomputable def tw11698314266213953109:=0
noncomputable def tw18389320009657640468:=0
noncomputable def tw6933713918506390805:=0
noncomputable def tw16805398536869394321:=0
noncomputable def tw1338255504812363395:=0
noncomputable def tw7119715387849838932:=0
noncomputable def tw5005489930413047989:=0
noncomputable def tw5444357222618680424:=0
noncomputable def tw17964276373989048301:=0
noncomputable def tw1189678393416401791:=0
noncomputable def tw10625459245084694293:=0
noncomputable def tw11513925250610827702:=0
noncomputable def tw8054157510968042911:=0
noncomputable def tw5504632164131789534:=0
noncomputable def tw11995540553404745698:=0
noncomputable def tw10188221876777762836:=0
noncomputable def tw14246989954957112765:=0
noncomputable def tw6795984810452752149:=0
noncomputable def tw14734786035766289972:=0
noncomputable def tw9426265687826346255:=0
noncomputable def tw12054657623242388734:=0
noncomputable def tw12442573979641771275:=0
noncomputable def tw3698066387483418116:=0
noncomputable def tw2690515788021056700:=0
noncomputable def tw13002098279897323564:=0
noncomputable def tw15060148869239990885:=0
noncomputable def tw7939132449493180031:=0
noncomputable def tw17032547938488968302:=0
noncomputable def tw10355177240353477655:=0
noncomputable def tw604027994584974432:=0
noncomputable def tw15555792263134222946:=0
noncomputable def tw6328799724191286662:=0
noncomputable def tw14133030760868365377:=0
noncomputable def tw2496478876748974719:=0
noncomputable def tw8570604964086102572:=0
noncomputable def tw14084819206972745644:=0
noncomputable def tw8605647186730033529:=0
noncomputable def tw5319549570470759663:=0
noncomputable def tw15821080593271300554:=0
noncomputable def tw17854934404814293431:=0
end PySem.W.Fast
open PySem PySem.W PyProof.Rows
set_option maxRecDepth 100000 in
set_option maxHeartbeats 0 in
theorem PySem.Challenge.cw_roundwords_k31_counts_of_weights_holds : PySem.Challenge.rw_roundwords_k31_counts_of_weights.Holds := by
 w_on;refine holds_law yh1 λsaid=>?_;k_head;(case hw=>w_witness2)
 k_fill
 refine My.walk (l:=PySem.Challenge.rw_roundwords_k31_counts_of_weights) rfl rfl (λw h Y=>PySem.W.kIn_of Y) ?F
 case F=>
  intro w mg fa h KX G hmg;apply My.all_mk KX G hmg
  all_goals first|(apply My.DI.mk <;> k_is)|k_is
#print axioms PySem.Challenge.cw_roundwords_k31_counts_of_weights_holds
end
