import PyProof.Rows.All
import Wide.All
import OpenK.AllK
import Wide.FinOn
import Lean
import PyProof.EqAt
import PyProof.EqKinds
import PyProof.TupleCall
import KE.KUnpack
import PyProof.ListRange
import PyProof.TupleOfGen
import PyProof.NeKinds
import KE.KRevIter
import PyProof.FactsAll.range_2
import KE.KTryMore
import PyProof.IsRules
import PyProof.IsInstanceH
import PyProof.ReprRoads
import PyProof.CallStr
import KE.KSortTup
import PySem.Challenge.RW_roundwords_k94_whole_turned_and_own
set_option Elab.async false
set_option linter.all false
set_option maxRecDepth 100000
set_option maxHeartbeats 4000000
noncomputable section
local macro_rules|`(∅)=>`((by decide +kernel))
local macro_rules|`(#[])=>`((by decide))
local macro_rules|`(())=>`((by omega))
local macro_rules|`(tactic|trivial)=>`(tactic|first|exact .inl rfl|exact .inr rfl|assumption)
local macro_rules|`(⋯)=>`((by rfl))
theorem zik:PySem.Challenge.rw_roundwords_k94_whole_turned_and_own.wellSaid=true:=by decide +kernel
section
open PySem PySem.Spec PySem.W PySem.Calls PyProof.Rows PyProof
theorem xA0:type_of% @wpAny_bind:=@wpAny_bind
theorem xA1:type_of% @List.length_map:=@List.length_map
theorem xA2:type_of% @Heap.get?_push_of_some:=@Heap.get?_push_of_some
theorem xA3:type_of% @wpAny_pure:=@wpAny_pure
theorem xA4:type_of% @Nat.le_refl:=@Nat.le_refl
theorem xA5:type_of% @List.size_toArray:=@List.size_toArray
theorem xA6:type_of% @Heap.get?_push_size:=@Heap.get?_push_size
theorem xA7:type_of% @List.getElem?_eq_getElem:=@List.getElem?_eq_getElem
theorem xA8:type_of% @List.map_append:=@List.map_append
theorem xA9:type_of% @List.getElem?_map:=@List.getElem?_map
theorem xAa:type_of% @List.mem_cons:=@List.mem_cons
theorem xAb:type_of% @List.mem_append_right:=@List.mem_append_right
theorem xAc:type_of% @Heap.lt_size:=@Heap.lt_size
theorem xAd:type_of% @List.mem_cons_of_mem:=@List.mem_cons_of_mem
theorem xAe:type_of% @List.mem_map:=@List.mem_map
theorem xAf:type_of% @List.mem_cons_self:=@List.mem_cons_self
theorem xAg:type_of% @PySem.W.mg_of:=@PySem.W.mg_of
theorem xAh:type_of% @of_decide_eq_true:=@of_decide_eq_true
theorem xAi:type_of% @PassesOwn.never:=@PassesOwn.never
theorem xAj:type_of% @Bool.false_ne_true:=@Bool.false_ne_true
theorem xAk:type_of% @List.not_mem_nil:=@List.not_mem_nil
theorem xAl:type_of% @Array.length_toList:=@Array.length_toList
theorem xAm:type_of% @Int.toNat_natCast:=@Int.toNat_natCast
theorem xAn:type_of% @List.getD_eq_getElem?_getD:=@List.getD_eq_getElem?_getD
theorem xAo:type_of% @List.getElem?_eq_some_iff:=@List.getElem?_eq_some_iff
theorem xAp:type_of% @Nat.lt_of_lt_of_le:=@Nat.lt_of_lt_of_le
theorem xAq:type_of% @List.length_replicate:=@List.length_replicate
theorem xAr:type_of% @PySem.W.mg_none_of:=@PySem.W.mg_none_of
theorem xAs:type_of% @wpAny_newObj_type:=@wpAny_newObj_type
theorem xAt:type_of% @List.length_range:=@List.length_range
theorem xAu:type_of% @List.mem_range:=@List.mem_range
theorem xAv:type_of% @Bool.and_eq_true:=@Bool.and_eq_true
theorem xAw:type_of% @Option.some.inj:=@Option.some.inj
theorem xAx:type_of% @List.length_append:=@List.length_append
theorem xAy:type_of% @Nat.ne_of_lt:=@Nat.ne_of_lt
theorem xAz:type_of% @decide_eq_true:=@decide_eq_true
theorem xAA:type_of% @wpAny_callSpecial?_slot:=@wpAny_callSpecial?_slot
theorem xAB:type_of% @List.mem_append:=@List.mem_append
theorem xAC:type_of% @Nat.mod_lt:=@Nat.mod_lt
theorem xAD:type_of% @Nat.pow_succ:=@Nat.pow_succ
theorem xAE:type_of% @List.map_congr_left:=@List.map_congr_left
theorem xAF:type_of% @wpAny_call_entry:=@wpAny_call_entry
theorem xAG:type_of% @List.mem_append_left:=@List.mem_append_left
theorem xAH:type_of% @List.length_take:=@List.length_take
theorem xAI:type_of% @Obj.data_mapFields:=@Obj.data_mapFields
theorem xAJ:type_of% @List.mem_singleton:=@List.mem_singleton
theorem xAK:type_of% @Heap.get?_update_other:=@Heap.get?_update_other
theorem xAL:type_of% @Nat.mul_comm:=@Nat.mul_comm
theorem xAM:type_of% @Nat.le_trans:=@Nat.le_trans
theorem xAN:type_of% @Nat.lt_or_ge:=@Nat.lt_or_ge
theorem xAO:type_of% @Nat.eq_zero_or_pos:=@Nat.eq_zero_or_pos
theorem xAP:type_of% @PyProof.Rows.callWith_type1:=@PyProof.Rows.callWith_type1
theorem xAQ:type_of% @wpAny_mono:=@wpAny_mono
theorem xAR:type_of% @PySem.boot_len:=@PySem.boot_len
theorem xAS:type_of% @List.ext_getElem:=@List.ext_getElem
theorem xAT:type_of% @List.all_eq_true:=@List.all_eq_true
theorem xAU:type_of% @wpAny_field:=@wpAny_field
theorem xAV:type_of% @Nat.dvd_of_mod_eq_zero:=@Nat.dvd_of_mod_eq_zero
theorem xAW:type_of% @Nat.mod_eq_of_lt:=@Nat.mod_eq_of_lt
theorem xAX:type_of% @List.take_length:=@List.take_length
theorem xAY:type_of% @Heap.get?_update_self:=@Heap.get?_update_self
theorem xAZ:type_of% @wpS_bind:=@wpS_bind
theorem xB0:type_of% @or_false:=@or_false
theorem xB1:type_of% @Nat.zero_le:=@Nat.zero_le
theorem xB2:type_of% @List.getElem?_range:=@List.getElem?_range
theorem xB3:type_of% @wpAny_ite_split:=@wpAny_ite_split
theorem xB4:type_of% @Heap.size_push:=@Heap.size_push
theorem xB5:type_of% @Array.getElem?_eq_getElem:=@Array.getElem?_eq_getElem
theorem xB6:type_of% @Nat.pow_le_pow_right:=@Nat.pow_le_pow_right
theorem xB7:type_of% @Nat.pow_pos:=@Nat.pow_pos
theorem xB8:type_of% @List.length_cons:=@List.length_cons
theorem xB9:type_of% @wpAny_holding:=@wpAny_holding
theorem xBa:type_of% @List.range_succ:=@List.range_succ
theorem xBb:type_of% @List.replicate_succ:=@List.replicate_succ
theorem xBc:type_of% @wpAny_rule:=@wpAny_rule
theorem xBd:type_of% @builtinLookup_eq_fast:=@builtinLookup_eq_fast
theorem xBe:type_of% @List.eq_of_mem_replicate:=@List.eq_of_mem_replicate
theorem xBf:type_of% @wpAny_of_eq:=@wpAny_of_eq
theorem xBg:type_of% @PySem.F.plainAttrs_list:=@PySem.F.plainAttrs_list
theorem xBh:type_of% @Nat.div_div_eq_div_mul:=@Nat.div_div_eq_div_mul
theorem xBi:type_of% @PyProof.Rows.slot_tuple_getitem:=@PyProof.Rows.slot_tuple_getitem
theorem xBj:type_of% @Heap.SameBut.update:=@Heap.SameBut.update
theorem xBk:type_of% @List.nodup_cons:=@List.nodup_cons
theorem xBl:type_of% @List.length_filter_le:=@List.length_filter_le
theorem xBm:type_of% @PySem.F.type_list_append:=@PySem.F.type_list_append
theorem xBn:type_of% @PySem.F.slot_list_append:=@PySem.F.slot_list_append
theorem xBo:type_of% @List.mem_of_getElem?:=@List.mem_of_getElem?
theorem xBp:type_of% @Around.under_plainId:=@Around.under_plainId
theorem xBq:type_of% @wpS_pure:=@wpS_pure
theorem xBr:type_of% @wpAny_attempt:=@wpAny_attempt
theorem xBs:type_of% @wpAny_setField:=@wpAny_setField
theorem xBt:type_of% @isSubtype_type:=@isSubtype_type
theorem xBu:type_of% @Nat.zero_add:=@Nat.zero_add
theorem xBv:type_of% @decide_eq_true_eq:=@decide_eq_true_eq
theorem xBw:type_of% @decide_eq_false:=@decide_eq_false
theorem xBx:type_of% @List.mem_filter:=@List.mem_filter
end
section
-- text: PpList
namespace L2
open PySem PySem.Spec PyProof.Rows
noncomputable abbrev Key:=Sum Int Str
noncomputable def yfw:Key->Value->Bool
 | .inl k,v=>Value.isInt k v
 | .inr x,v=>Value.isStrOf x v
noncomputable def keyH(w:World):Key->Int
 | .inl k=>hashInt k
 | .inr x=>hashStr w x
theorem zaG:∀ {k:Key} {v:Value},yfw k v=true->(∃i t,k=Sum.inl i/\v=Value.int i t)\/(∃x t,k=Sum.inr x/\v=Value.str x t)
 | .inl i,v,h=>by
  obtain⟨t,e⟩:=Value.isInt_shape (k:=i) (v:=v) h;exact .inl ⟨i,t,rfl,e⟩
 | .inr x,v,h=>by
  obtain⟨t,e⟩:=Value.isStrOf_shape (x:=x) (v:=v) h;exact .inr ⟨x,t,rfl,e⟩
theorem zfE(i:Int)(t:Tok):yfw (.inl i) (.int i t)=true:=by simp[yfw,Value.isInt]
theorem yfT(x:Str)(t:Tok):yfw (.inr x) (.str x t)=true:=by simp[yfw,Value.isStrOf]
theorem zin(a b:Int):decide ((Sum.inl a:Key)=Sum.inl b)=(a==b):=by
 by_cases e:a=b
 ·subst e;simp
 ·have h:¬ (Sum.inl a:Key)=Sum.inl b:=λq=>e (Sum.inl.inj q)
  rw[xBw h];exact(beq_eq_false_iff_ne.mpr e).symm
theorem yh8(a b:Str):decide ((Sum.inr a:Key)=Sum.inr b)=decide (a=b):=by
 by_cases e:a=b
 ·subst e;simp
 ·have h:¬ (Sum.inr a:Key)=Sum.inr b:=λq=>e (Sum.inr.inj q)
  rw[xBw h,xBw e]
theorem yh5(a:Int)(b:Str):decide ((Sum.inl a:Key)=Sum.inr b)=false:=xBw (λq=>nomatch q)
theorem yh7(a:Str)(b:Int):decide ((Sum.inr a:Key)=Sum.inl b)=false:=xBw (λq=>nomatch q)
noncomputable def zaK(prog:Program)(w:World):PySem.KeyKind prog w Key where
 is:=yfw
 hash:=keyH w
 inj:=λv a b ha hb=>by
  rcases zaG ha with⟨i,t,rfl,rfl⟩ |⟨x,t,rfl,rfl⟩
  ·rcases zaG hb with⟨j,u,rfl,e⟩ |⟨y,u,rfl,e⟩
   ·injection e with e1 _;rw[e1]
   ·exact nomatch e
  ·rcases zaG hb with⟨j,u,rfl,e⟩ |⟨y,u,rfl,e⟩
   ·exact nomatch e
   ·injection e with e1 _;rw[e1]
 byValue:=λk v h=>by
  rcases zaG h with⟨i,t,rfl,rfl⟩ |⟨x,t,rfl,rfl⟩ <;> rfl
 pyHash:=λhv h=>by
  rcases zaG hv with⟨i,t,rfl,rfl⟩ |⟨x,t,rfl,rfl⟩
  ·exact wpAny_pyHash_int h
  ·exact wpAny_pyHash_str h
 eqBool:=λhu hv h=>by
  rcases zaG hu with⟨i,t,rfl,rfl⟩ |⟨x,t,rfl,rfl⟩
  ·rcases zaG hv with⟨j,u,rfl,rfl⟩ |⟨y,u,rfl,rfl⟩
   ·rw[zin]at h;exact wpAny_eqBool_int h
   ·rw[yh5]at h;exact SeqAt.EqAt.int_str i t y u _ _ _ _ h
  ·rcases zaG hv with⟨j,u,rfl,rfl⟩ |⟨y,u,rfl,rfl⟩
   ·rw[yh7]at h;exact SeqAt.EqAt.str_int x t j u _ _ _ _ h
   ·rw[yh8]at h;exact wpAny_eqBool_str h
 «strs»:=λk x t v h=>by
  rcases zaG h with⟨i,u,rfl,e⟩ |⟨y,u,rfl,e⟩
  ·exact nomatch e
  ·injection e with e1 _;subst e1;cases v <;> rfl
theorem yev(prog:Program)(w:World)(i:Int)(t:Tok):(zaK prog w).is (.inl i) (.int i t)=true:=zfE i t
theorem yex(prog:Program)(w:World)(x:Str)(t:Tok):(zaK prog w).is (.inr x) (.str x t)=true:=yfT x t
end L2
namespace L2
open PySem PySem.Spec PyProof.Rows
inductive V where
 |non|bl (b:Bool)|int (i:Int)|str (x:Str)|byt (b:Array UInt8)|flt (b:UInt64)|ref (a:Addr)|ty (n:String)
 deriving DecidableEq
noncomputable def RelV:V->Value->Prop
 | .non,u=>u=Value.none
 | .bl b,u=>u=Value.bool b
 | .int i,u=>∃t,u=Value.int i t
 | .str x,u=>∃t,u=Value.str x t
 | .byt b,u=>∃t,u=Value.bytes b t
 | .flt b,u=>∃t,u=Value.float b t
 | .ref a,u=>u=Value.ref a
 | .ty n,u=>u=Value.type n
noncomputable abbrev Vals:List V->List Value->Prop:=Paired RelV
theorem Vals.length{xs:List V}{us:List Value}(r:Vals xs us):xs.length=us.length:=Paired.length r
theorem Vals.get:∀ {xs:List V} {us:List Value} {i:Nat} {x:V},Vals xs us->xs[i]?=some x->∃u,us[i]?=some u/\RelV x u
 |_,_,_,_,.nil,e=>by simp at e
 |_,_,0,_,.cons r _,e=>by simp at e;subst e;exact⟨_,rfl,r⟩
 |_,_,i+1,x,.cons _ t,e=>by
  obtain⟨u,h1,h2⟩:=Vals.get (i:=i) (x:=x) t (by simpa using e);exact⟨u,by simpa using h1,h2⟩
theorem Vals.set{x:V}{u:Value}(r:RelV x u):∀ {xs:List V} {us:List Value} (i:Nat),Vals xs us->Vals (xs.set i x) (us.set i u)
 |_,_,_,.nil=>.nil
 |_,_,0,.cons _ t=>.cons r t
 |_,_,i+1,.cons q t=>.cons q (Vals.set r i t)
theorem Vals.append:∀ {xs ys:List V} {us ws:List Value},Vals xs us->Vals ys ws->Vals (xs++ys) (us++ws)
 |_,_,_,_,.nil,s=>s
 |_,_,_,_,.cons r t,s=>.cons r (Vals.append t s)
theorem Vals.take:∀ {xs:List V} {us:List Value} (n:Nat),Vals xs us->Vals (xs.take n) (us.take n)
 |_,_,0,_=>.nil
 |_,_,_+1,.nil=>.nil
 |_,_,n+1,.cons r t=>.cons r (Vals.take n t)
theorem Vals.drop:∀ {xs:List V} {us:List Value} (n:Nat),Vals xs us->Vals (xs.drop n) (us.drop n)
 |_,_,0,r=>r
 |_,_,_+1,.nil=>.nil
 |_,_,n+1,.cons _ t=>Vals.drop n t
noncomputable def RelO:Option V->Option Value->Prop
 |some v,some u=>RelV v u
 |none,none=>True
 |_,_=>False
noncomputable def KV{κ:Type}:List (κ×V)->List (κ×Value)->Prop:=Paired λ(p:κ×V) (q:κ×Value)=>p.1=q.1/\RelV p.2 q.2
noncomputable def kV:Key->V
 | .inl i=>.int i
 | .inr x=>.str x
inductive HO where
 |lst (xs:List V)
 |tup (xs:List V)
 |dK (kvs:List (Key×V))|dT (kvs:List (List Key×V))
 |set (S:Int->Bool) (n:Nat)
 |ins (C dx:Addr) (fs:List (Str×V))
 |own (x:Addr)
 |xd (fs:List (Str×V))
 |met (f x:Addr)
 |rng (lo hi:Int)
 |frz (o:Obj) (u:HO)
 |tbl (ps:Array Value)
 |ext (φ:Heap->Prop)
noncomputable abbrev Hp:=Addr->Option HO
noncomputable def upd(H:Hp)(a:Addr)(o:HO):Hp:=λb=>if b=a then some o else H b
theorem yab{H:Hp}{a:Addr}{o:HO}:upd H a o a=some o:=by unfold upd;rw[if_pos rfl]
theorem zah{H:Hp}{a b:Addr}{o:HO}(h:b≠a):upd H a o b=H b:=by unfold upd;rw[if_neg h]
theorem yek{H:Hp}{a:Addr}{o u:HO}:upd (upd H a o) a u=upd H a u:=by
 funext b;unfold upd;split <;> rfl
theorem zaf{H:Hp}{a b:Addr}{o:HO}(h:H a=some o)(h':H b=none):a≠b:=by
 intro e;subst e;rw[h]at h';cases h'
section
variable (P:Program) (w:World)
noncomputable def zbh(H:Hp)(h:Heap)(a:Addr):HO->Prop
 | .lst xs=>xs.length<=sizeLine/\∃(its:List Value) (n:Nat),Vals xs its/\h.get? a=some { cls:=.type "list",data:=.seq its.toArray n }
 | .tup xs=>xs.length<=sizeLine/\∃its:List Value,Vals xs its/\IsTup h a its.toArray
 | .dK kvs=>kvs.length<=sizeLine/\(a==sysModules)=false/\∃vs,KV kvs vs/\h.DictOf (zaK P w) a vs
 | .dT kvs=>kvs.length<=sizeLine/\(a==sysModules)=false/\∃xs:List (List Key×Addr×Value),
   Paired (λ(p:List Key×V) (q:List Key×Addr×Value)=>p.1=q.1/\H q.2.1=some (.tup (p.1.map kV))/\RelV p.2 q.2.2) kvs xs/\
   ∃o es ep,h.get? a=some o/\o.ExactDict/\o.data = .dict es ep/\es.toList=xs.map (entryOfKey (tupleKind (zaK P w)))/\(xs.map (·.1)).Nodup
 | .set S n=>h.SetOf (intKind P w) a S n
 | .ins C dx fs=>H dx=some (.own a)/\fs.length<=1000/\dx≠a/\h.get? a=some (PySem.W.instObj C dx)/\
   ∃mA,h.Ns1 dx mA/\(∀f,RelO (fs.lookup f) (mA f))/\PySem.Within mA (fs.map (·.1))
 | .own _=>∃o,h.get? a=some o
 | .xd fs=>∃mA,h.Ns1 a mA/\∀f,RelO (fs.lookup f) (mA f)
 | .rng lo hi=>∃t u v,h.get? a=some { cls:=.type "range",data:=.fields #[.int lo t,.int hi u,.int 1 v] }
 | .frz o u=>h.get? a=some o/\zbh H h a u
 | .tbl ps=>h.get? a=some { cls:=.none,data:=.fields ps }
 | .met f x=>h.get? a=some (PySem.W.methodObj (.ref f) (.ref x))
 | .ext φ=>φ h/\(∃o,h.get? a=some o)/\∀h1 h2:Heap,φ h1->(∀o,h1.get? a=some o->h2.get? a=some o)->φ h2
noncomputable def HOk(H:Hp)(h:Heap):Prop:=∀a o,H a=some o->zbh P w H h a o
end
section
variable {P:Program} {w:World} {H H':Hp} {h h':Heap} {a:Addr} {o:HO}
theorem zbh.lt(x:zbh P w H h a o):a<h.objs.size:=by
 cases o with
 |lst xs=>obtain⟨_,_,_,_,e⟩:=x;exact xAc e
 |tup xs=>obtain⟨_,_,_,p⟩:=x;exact p.lt
 |dK kvs=>obtain⟨_,_,_,_,o,_,_,e,_⟩:=x;exact xAc e
 |dT kvs=>obtain⟨_,_,_,_,o,_,_,e,_⟩:=x;exact xAc e
 |set S n=>obtain⟨o,_,_,_,e,_⟩:=x;exact xAc e
 |ins C dx fs=>obtain⟨_,_,_,e,_⟩:=x;exact xAc e
 |own y=>obtain⟨_,e⟩:=x;exact xAc e
 |xd fs=>obtain⟨_,⟨_,_,_,e,_⟩,_⟩:=x;exact xAc e
 |rng lo hi=>obtain⟨_,_,_,e⟩:=x;exact xAc e
 |frz ob u=>obtain⟨e,_⟩:=x;exact xAc e
 |tbl ps=>exact xAc (show h.get? a=some _ from x)
 |met f y=>exact xAc (show h.get? a=some _ from x)
 |ext φ=>obtain⟨_,⟨_,e⟩,_⟩:=x;exact xAc e
theorem Paired.mapP{α β:Type}{F G:α->β->Prop}:∀ {l₁:List α} {l₂:List β},Paired F l₁ l₂->(∀a b,F a b->G a b)->Paired G l₁ l₂
 |_,_,.nil,_=>.nil
 |_,_,.cons r t,f=>.cons (f _ _ r) (Paired.mapP t f)
theorem zbh.stay(x:zbh P w H h a o)(k:∀b u,(b=a\/H b=some (.own a))->h.get? b=some u->h'.get? b=some u)
  (ho:∀b,H b=some (.own a)->H' b=some (.own a)) (ht:∀b xs,H b=some (.tup xs)->H' b=some (.tup xs)):zbh P w H' h' a o:=by
 induction o with
 |lst xs=>obtain⟨z,its,n,r,e⟩:=x;exact⟨z,its,n,r,k _ _ (.inl rfl) e⟩
 |tup xs=>obtain⟨z,its,r,ob,e,c⟩:=x;exact⟨z,its,r,ob,k _ _ (.inl rfl) e,c⟩
 |dK kvs=>obtain⟨z,y,vs,r,ob,es,ep,e,c⟩:=x;exact⟨z,y,vs,r,ob,es,ep,k _ _ (.inl rfl) e,c⟩
 |dT kvs=>
  obtain⟨z,y,xs,r,ob,es,ep,e,c⟩:=x;exact⟨z,y,xs,Paired.mapP r λp q z=>⟨z.1,ht _ _ z.2.1,z.2.2⟩,ob,es,ep,k _ _ (.inl rfl) e,c⟩
 |set S n=>obtain⟨ob,es,ep,t,e,c⟩:=x;exact⟨ob,es,ep,t,k _ _ (.inl rfl) e,c⟩
 |ins C dx fs=>
  obtain⟨d,z,ne,e,mA,⟨od,es,ep,e2,c⟩,r⟩:=x;exact⟨ho _ d,z,ne,k _ _ (.inl rfl) e,mA,⟨od,es,ep,k _ _ (.inr d) e2,c⟩,r⟩
 |own y=>obtain⟨ob,e⟩:=x;exact⟨ob,k _ _ (.inl rfl) e⟩
 |xd fs=>obtain⟨mA,⟨od,es,ep,e,c⟩,r⟩:=x;exact⟨mA,⟨od,es,ep,k _ _ (.inl rfl) e,c⟩,r⟩
 |rng lo hi=>obtain⟨t,u,v,e⟩:=x;exact⟨t,u,v,k _ _ (.inl rfl) e⟩
 |frz ob u ih=>obtain⟨e,q⟩:=x;exact⟨k _ _ (.inl rfl) e,ih q⟩
 |tbl ps=>
  have e:h.get? a=some { cls:=.none,data:=.fields ps }:=x;show h'.get? a=some { cls:=.none,data:=.fields ps };exact k a _ (.inl rfl) e
 |met f y=>
  have e:h.get? a=some (PySem.W.methodObj (.ref f) (.ref y)):=x;show h'.get? a=some (PySem.W.methodObj (.ref f) (.ref y));exact k a _ (.inl rfl) e
 |ext φ=>obtain⟨p,⟨o,e⟩,st⟩:=x;exact⟨st _ _ p λo q=>k _ _ (.inl rfl) q,⟨o,k _ _ (.inl rfl) e⟩,st⟩
theorem HOk.lt(x:HOk P w H h)(e:H a=some o):a<h.objs.size:=(x a o e).lt
theorem HOk.fresh(x:HOk P w H h)(e:h.objs.size<=a):H a=none:=by
 cases q:H a with
 |none=>rfl
 |some u=>exact absurd (xAp (x.lt q) e) (Nat.lt_irrefl _)
theorem HOk.kept(x:HOk P w H h)(k:∀b u,h.get? b=some u->h'.get? b=some u):HOk P w H h':=λa o e=>
 (x a o e).stay (λb u _ q=>k b u q) (λ_ q=>q) λ_ _ q=>q
theorem HOk.laid(x:HOk P w H h)(k:∀b u,h.get? b=some u->h'.get? b=some u)(hp:h.objs.size<=a)(new:zbh P w (upd H a o) h' a o):HOk P w (upd H a o) h':=λb u e=>by
 have hn:=x.fresh hp;by_cases hb:b=a
 ·subst hb;rw[yab]at e;cases e;exact new
 ·rw[zah hb]at e;exact(x b u e).stay (λc v _ q=>k c v q) (λc q=>by rw[zah (zaf q hn)];exact q) λc xs q=>by rw[zah (zaf q hn)];exact q
end
noncomputable def Rd(H:Hp)(a:Addr)(u:HO):Prop:=H a=some u\/∃o,H a=some (.frz o u)
theorem Rd.ok{P:Program}{w:World}{H:Hp}{h:Heap}{a:Addr}{u:HO}(r:Rd H a u)(x:HOk P w H h):zbh P w H h a u:=by
 rcases r with r |⟨o,r⟩
 ·exact x a u r
 ·obtain⟨_,q⟩:=x a _ r;exact q
noncomputable def Mut:Option HO->Prop
 |some (.lst _)=>True
 |some (.dK _)=>True
 |some (.dT _)=>True
 |some (.set _ _)=>True
 |some (.ins _ _ _)=>True
 |some (.ext _)=>True
 |_=>False
section
variable {P:Program} {w:World} {H:Hp} {h h':Heap} {x e:Addr} {o':HO}
theorem HOk.write(ok:HOk P w H h)(mu:Mut (H x))(he:e=x\/H e=some (.own x))(k:∀b u,b≠e->h.get? b=some u->h'.get? b=some u)(heo:∃u,h'.get? e=some u)
  (new:zbh P w (upd H x o') h' x o'):HOk P w (upd H x o') h':=λb u q=>by
 have nown:∀c y,H c=some (.own y)->c≠x:=λc y r z=>by subst z;rw[r]at mu;exact mu
 have ntup:∀c xs,H c=some (.tup xs)->c≠x:=λc xs r z=>by subst z;rw[r]at mu;exact mu
 by_cases hb:b=x
 ·subst hb;rw[yab]at q;cases q;exact new
 ·rw[zah hb]at q;by_cases hbe:b=e
  ·have q':H b=some (.own x):=by
    rcases he with z|z
    ·exact absurd (hbe.trans z) hb
    ·rw[hbe];exact z
   rw[q]at q';cases q';obtain⟨v,hv⟩:=heo;exact⟨v,by rw[hbe];exact hv⟩
  ·refine(ok b u q).stay (λc v hc r=>k c v ?_ r) (λc r=>by rw[zah (nown c b r)];exact r) λc xs r=>by rw[zah (ntup c xs r)];exact r
   rcases hc with rfl|hc
   ·exact hbe
   ·rintro rfl;rcases he with z|z
    ·exact nown c b hc z
    ·rw[hc]at z;cases z;exact hb rfl
end
structure Un(fs ex:List Addr)(H H':Hp)(h h':Heap):Prop where
 keep:∀b o,h.get? b=some o->H b=none->b∉fs->b∉ex->h'.get? b=some o
 slot:∀b o,h.get? b=some o->H b=none->b∈fs->b∉ex->∃sl,h'.get? b=some { o with slots:=sl }
 free:∀b o,h.get? b=some o->H b=none->b∉ex->H' b=none
 there:∀b o,h.get? b=some o->b∉ex->∃o',h'.get? b=some o'
 tups:∀b xs,H b=some (.tup xs)->H' b=some (.tup xs)
 frzs:∀b o u,H b=some (.frz o u)->H' b=some (.frz o u)
 tbls:∀b ps,H b=some (.tbl ps)->∃more,H' b=some (.tbl (ps++more))
section
variable {fs fs' ex ex':List Addr} {H H1 H2:Hp} {h h1 h2 h':Heap} {a x e:Addr} {o:HO}
theorem Un.any(u:Un fs ex H H1 h h1){b:Addr}{ob:Obj}(q:h.get? b=some ob)(n:H b=none)(hx:b∉ex):∃sl,h1.get? b=some { ob with slots:=sl }:=by
 by_cases hb:b∈fs
 ·exact u.slot b ob q n hb hx
 ·exact⟨ob.slots,u.keep b ob q n hb hx⟩
theorem Un.kept(k:∀b u,h.get? b=some u->h'.get? b=some u):Un fs ex H H h h' :=
 ⟨λb ob q _ _ _=>k b ob q,λb ob q _ _ _=>⟨ob.slots,k b ob q⟩,λ_ _ _ n _=>n,λb ob q _=>⟨ob,k b ob q⟩,λ_ _ q=>q,λ_ _ _ q=>q,λ_ ps q=>⟨(List.toArray []),by rw[q];simp⟩⟩
theorem Un.refl:Un fs ex H H h h:=Un.kept λ_ _ q=>q
theorem Un.laid(k:∀b u,h.get? b=some u->h'.get? b=some u)(hp:h.objs.size<=a)(hn:H a=none):Un fs ex H (upd H a o) h h' where
 keep:=λb u q _ _ _=>k b u q
 slot:=λb u q _ _ _=>⟨u.slots,k b u q⟩
 free:=λb u q n _=>by rw[zah (xAy (xAp (xAc q) hp))];exact n
 there:=λb u q _=>⟨u,k b u q⟩
 tups:=λb xs q=>by rw[zah (zaf q hn)];exact q
 frzs:=λb u xs q=>by rw[zah (zaf q hn)];exact q
 tbls:=λb ps q=>⟨(List.toArray []),by rw[zah (zaf q hn),q];simp⟩
theorem Un.write(mu:Mut (H x))(he:e=x\/H e=some (.own x))(k:∀b u,b≠e->h.get? b=some u->h'.get? b=some u)(heo:∃u,h'.get? e=some u):Un fs ex H (upd H x o) h h':=by
 have hx:∀b,H b=none->b≠x:=λb n z=>by subst z;rw[n]at mu;exact mu
 have hb:∀b,H b=none->b≠e:=λb n z=>by
  subst z;rcases he with r|r
  ·exact hx b n r
  ·rw[n]at r;cases r
 have hm:∀b u,H b=some u->¬ Mut (some u)->b≠x:=λb u q nm z=>by subst z;rw[q]at mu;exact nm mu
 refine⟨λb u q n _ _=>k b u (hb b n) q,λb u q n _ _=>⟨u.slots,k b u (hb b n) q⟩,λb u q n _=>by rw[zah (hx b n)];exact n,λb u q _=>?_,
  λb xs q=>by rw[zah (hm b _ q λz=>z)];exact q,λb u xs q=>by rw[zah (hm b _ q λz=>z)];exact q,λb ps q=>⟨(List.toArray []),by rw[zah (hm b _ q λz=>z),q];simp⟩⟩
 by_cases hbe:b=e
 ·subst hbe;exact heo
 ·exact⟨u,k b u hbe q⟩
end
noncomputable def trk(h:Heap)(H:Hp):List Addr:=(List.range h.objs.size).filter λa=>(H a).isSome
noncomputable def hidT(h:Heap)(H:Hp):Heap:=PySem.W.hideAll h (trk h H)
theorem yf5(h:Heap)(H:Hp):(hidT h H).objs.size=h.objs.size:=PySem.W.hideAll_size _ _
theorem zgB{h:Heap}{H:Hp}{b:Addr}{o:Obj}(e:h.get? b=some o)(n:H b=none):(hidT h H).get? b=some o :=
 PySem.W.hideAll_get _ e λhm=>by
  have q:(H b).isSome=true:=(xBx.mp hm).2;rw[n]at q;simp at q
theorem yhx{h:Heap}{H:Hp}{b:Addr}{o:Obj}(e:(hidT h H).get? b=some o):h.get? b=some o/\H b=none:=by
 have e':h.get? b=some o:=PySem.W.of_hideAll (trk h H) e;refine⟨e',?_⟩;cases q:H b with
 |none=>rfl
 |some x=>
  have hm:b∈trk h H:=xBx.mpr ⟨xAu.mpr (xAc e'),by simp[q]⟩;have z:(hidT h H).get? b=none:=PySem.W.hideAll_none (trk h H) hm;rw[z]at e;cases e
end L2
namespace L2
open PySem PySem.Spec PyProof.Rows
structure Mod(K:PySem.W.Frag)(mg:Str->Option Value)(base:Heap):Prop where
 kin:K.In base
 glob:base.Ns mainGlobals mg
 blt:∃mb,base.Ns builtinsNs mb/\∀x:Str,x≠"__name__"->mb x=bootBuiltins x
 nolimit:base.NoLimit
structure Cx where
 prog:Program
 w:World
 K:PySem.W.Frag
 mg:Str->Option Value
 base:Heap
 A:Around
 N:List Str
 s₀:Shared
 H₀:Hp
 env:Env
 outer:List Env
 stack:List Env
 ex:List Addr
 fn:Str->Bool
 calm:Bool
 pn:List (Addr×Obj)
 xe:Value->Shared->Prop
noncomputable def frs(l:List Env):List Addr:=l.filterMap (·.frame)
noncomputable abbrev Cx.fs(X:Cx):List Addr:=frs X.outer
noncomputable def Vis(sc:Scope)(x:Str):Prop:=sc.names.lookup x=some .local\/sc.names.lookup x=some .cell\/sc.names.lookup x=some .free
noncomputable def Loc(sc:Scope)(x:Str):Prop:=sc.names.lookup x=some .local\/sc.names.lookup x=some .cell
noncomputable def Look(env:Env)(h:Heap)(m:Str->Option Value)(x:Str)(u:Value):Prop :=
 (env.kindOf x=some .local/\m x=some u)\/((env.kindOf x=some .cell\/env.kindOf x=some .free)/\∃c,env.cells.lookup x=some c/\h.IsCell c (some u))
structure Cx.Ok(X:Cx):Prop where
 mod:Mod X.K X.mg X.base
 kind:X.env.scope.kind = .function
 glob:X.env.globals=mainGlobals
 blt:X.env.builtins=builtinsNs
 above:X.s₀.heap.objs.size<=X.env.locals
 inj:∀x y c,X.env.cells.lookup x=some c->X.env.cells.lookup y=some c->x=y
 has:∀x,(X.env.kindOf x=some .cell\/X.env.kindOf x=some .free)->∃c,X.env.cells.lookup x=some c
 cab:∀x c,X.fn x=true->X.env.cells.lookup x=some c->X.s₀.heap.objs.size<=c
 hd:X.calm=true->X.A.handled=none
 frames:X.A.frames=some X.stack
 stk:X.stack=X.outer\/(X.stack=X.env::X.outer/\X.env.frame=some X.env.locals)
 exf:∀b∈X.ex,b≠X.env.locals/\∀x c,X.env.cells.lookup x=some c->c≠b
 bs:∀b o,X.base.get? b=some o->X.s₀.heap.get? b=some o/\X.H₀ b=none
 bsz:X.base.objs.size<=X.s₀.heap.objs.size
 noex:∀b o,X.base.get? b=some o->b∉X.ex
 exfs:∀b∈X.ex,b∉X.fs
 funs:X.s₀.heap.FunFrames X.base X.outer
 frf:∀b∈X.fs,X.H₀ b=none
structure Inv(X:Cx)(pins:List (Addr×Obj))(σ:List (Option V))(H:Hp)(s:Shared):Prop where
 ok:X.Ok
 os:s.os=X.s₀.os
 bare:AllBare s.gens
 base:Un X.fs X.ex X.H₀ H X.s₀.heap s.heap
 loc:∃m,s.heap.Ns X.env.locals m/\∀(i:Nat) (x:Str) (v:V),X.N[i]?=some x->σ[i]?=some (some v)->Vis X.env.scope x->∃u,RelV v u/\Look X.env s.heap m x u
 cell:∀x c,X.env.cells.lookup x=some c->∃v,s.heap.IsCell c v
 free:H X.env.locals=none
 freeC:∀x c,X.env.cells.lookup x=some c->H c=none
 pin:∀p∈X.pn++pins,s.heap.get? p.1=some p.2/\H p.1=none/\p.1≠X.env.locals/\p.1∉X.fs/\∀v,p.2.data≠.cell v
 hok:HOk X.prog X.w H s.heap
 len:σ.length=X.N.length
section
variable {X:Cx} {pins:List (Addr×Obj)} {σ:List (Option V)} {H H':Hp} {s:Shared} {h':Heap}
theorem Cx.Ok.nofr(ok:X.Ok){b:Addr}{o:Obj}(e:X.base.get? b=some o):b∉X.fs:=λhb=>by
 have:=(ok.funs.mem hb).1;rw[e]at this;cases this
theorem Inv.bs(I:Inv X pins σ H s):∀b o,X.base.get? b=some o->s.heap.get? b=some o/\H b=none:=λb o e=>
 ⟨I.base.keep b o (I.ok.bs b o e).1 (I.ok.bs b o e).2 (I.ok.nofr e) (I.ok.noex b o e),I.base.free b o (I.ok.bs b o e).1 (I.ok.bs b o e).2 (I.ok.noex b o e)⟩
theorem Inv.bk(I:Inv X pins σ H s):∀b o,X.base.get? b=some o->s.heap.get? b=some o:=λb o e=>(I.bs b o e).1
theorem Inv.mod(I:Inv X pins σ H s):Mod X.K X.mg X.base:=I.ok.mod
theorem Inv.kIn(I:Inv X pins σ H s):X.K.In s.heap:=I.ok.mod.kin.keeps I.bk
theorem Inv.lt(I:Inv X pins σ H s):X.env.locals<s.heap.objs.size:=let ⟨_,hn,_⟩:=I.loc;hn.lt
theorem Inv.sz(I:Inv X pins σ H s):X.s₀.heap.objs.size<=s.heap.objs.size:=xAM I.ok.above (Nat.le_of_lt I.lt)
theorem Inv.nofs(I:Inv X pins σ H s){a:Addr}(h:s.heap.objs.size<=a):a∉X.fs:=λhb=>by
 obtain⟨_,o,ho,_⟩:=I.ok.funs.mem hb;exact absurd (xAp (xAc ho) (xAM I.sz h)) (Nat.lt_irrefl _)
theorem Inv.cne(I:Inv X pins σ H s):∀x c,X.env.cells.lookup x=some c->c≠X.env.locals:=λx c e z=>by
 obtain⟨v,o,ho,hd⟩:=I.cell x c e;obtain⟨m,⟨o',es,ep,ho',hd',_⟩,_⟩:=I.loc;rw[z,ho']at ho;cases ho;rw[hd']at hd;cases hd
theorem Inv.funs(I:Inv X pins σ H s):s.heap.FunFrames X.base X.outer:=by
 have all:∀(l:List Env),(∀b∈frs l,b∈X.fs)->X.s₀.heap.FunFrames X.base l->s.heap.FunFrames X.base l:=by
  intro l
  induction l with
  |nil=>intro _ _;trivial
  |cons env r ih=>
   intro hs hl;obtain⟨hk,⟨L,o,hf,hn,ho,hd⟩,hr⟩:=hl;have hL:L∈X.fs:=hs L (by unfold frs;rw[List.filterMap_cons,hf];exact xAf);obtain⟨sl,e⟩:=I.base.slot L o ho (I.ok.frf L hL) hL λz=>I.ok.exfs L z hL
   exact⟨hk,⟨L,_,hf,hn,e,hd⟩,ih (λb hb=>hs b (by unfold frs;rw[List.filterMap_cons,hf];exact xAd _ hb)) hr⟩
 exact all X.outer (λ_ hb=>hb) I.ok.funs
theorem Inv.stack(I:Inv X pins σ H s):s.heap.FunFrames X.base X.stack:=by
 rcases I.ok.stk with e |⟨e,hf⟩
 ·rw[e];exact I.funs
 ·rw[e];obtain⟨m,hn,_⟩:=I.loc;refine .cons (by rw[I.ok.kind];decide) hf hn ?_ I.funs;exact Heap.get?_none_of_le (xAM I.ok.bsz I.ok.above)
theorem Inv.stkSub(I:Inv X pins σ H s):∀b∈frs X.stack,b∈X.env.locals::X.fs:=λb hb=>by
 rcases I.ok.stk with e |⟨e,hf⟩
 ·rw[e]at hb;exact xAd _ hb
 ·rw[e]at hb;unfold frs at hb;rw[List.filterMap_cons,hf]at hb;exact hb
theorem Inv.stkFree(I:Inv X pins σ H s):∀b∈frs X.stack,H b=none:=λb hb=>by
 rcases xAa.mp (I.stkSub b hb) with e|hb
 ·rw[e];exact I.free
 ·obtain⟨_,o,ho,_⟩:=I.ok.funs.mem hb;exact I.base.free b o ho (I.ok.frf b hb) λz=>I.ok.exfs b z hb
theorem Inv.step{g':Array GenState}{t':Nat}{d':Drawn}{ch:List Addr}(I:Inv X pins σ H s)
  (hch:∀b∈ch,(b∈X.ex\/X.s₀.heap.objs.size<=b)/\b≠X.env.locals/\(∀x c,X.env.cells.lookup x=some c->c≠b)/\∀p∈X.pn++pins,p.1≠b)
  (keep:∀b o,b≠X.env.locals->b∉X.fs->b∉ch->s.heap.get? b=some o->H b=none->h'.get? b=some o)
  (slot:∀b o,b≠X.env.locals->b∈X.fs->b∉ch->s.heap.get? b=some o->H b=none->∃sl,h'.get? b=some { o with slots:=sl }) (free:∀b o,b∉ch->s.heap.get? b=some o->H b=none->H' b=none)
  (there:∀b o,b∉ch->s.heap.get? b=some o->∃o',h'.get? b=some o')
  (tups:∀b xs,H b=some (.tup xs)->H' b=some (.tup xs)) (frzs:∀b o u,H b=some (.frz o u)->H' b=some (.frz o u)) (tbls:∀b ps,H b=some (.tbl ps)->∃more,H' b=some (.tbl (ps++more)))
  (ns:∀m,s.heap.Ns X.env.locals m->h'.Ns X.env.locals m) (hok:HOk X.prog X.w H' h') (hg:AllBare g') :
  Inv X pins σ H' { s with heap:=h',gens:=g',drawn:=d',toks:=t' }:=by
 have neL:∀b o,X.s₀.heap.get? b=some o->b≠X.env.locals:=λb o e=>xAy (xAp (xAc e) I.ok.above)
 have neC:∀b o,X.s₀.heap.get? b=some o->b∉X.ex->b∉ch:=λb o e hx hb=>by
  rcases(hch b hb).1 with z|z
  ·exact hx z
  ·exact absurd (xAp (xAc e) z) (Nat.lt_irrefl _)
 have cellK:∀x c,X.env.cells.lookup x=some c->∀v,s.heap.IsCell c v->h'.IsCell c v:=λx c e v ⟨o,ho,hd⟩=>by
  have nch:c∉ch:=λz=>(hch c z).2.2.1 x c e rfl
  by_cases hc:c∈X.fs
  ·obtain⟨sl,q⟩:=slot c o (I.cne x c e) hc nch ho (I.freeC x c e);exact⟨_,q,hd⟩
  ·exact⟨o,keep c o (I.cne x c e) hc nch ho (I.freeC x c e),hd⟩
 refine⟨I.ok,I.os,hg,⟨λb o e n hb hx=>?_,λb o e n hb hx=>?_,λb o e n hx=>?_,λb o e hx=>?_,λb xs e=>tups b xs (I.base.tups b xs e),λb o xs e=>frzs b o xs (I.base.frzs b o xs e),λb ps e=>?_⟩,?_,λx c e=>?_,?_,λx c e=>?_,λp hp=>?_,hok,I.len⟩
 ·exact keep b o (neL b o e) hb (neC b o e hx) (I.base.keep b o e n hb hx) (I.base.free b o e n hx)
 ·obtain⟨sl,e1⟩:=I.base.slot b o e n hb hx;obtain⟨sl',e2⟩:=slot b _ (neL b o e) hb (neC b o e hx) e1 (I.base.free b o e n hx);exact⟨sl',e2⟩
 ·obtain⟨o',e1⟩:=I.base.there b o e hx;exact free b o' (neC b o e hx) e1 (I.base.free b o e n hx)
 ·obtain⟨o',e1⟩:=I.base.there b o e hx;exact there b o' (neC b o e hx) e1
 ·obtain⟨m1,e1⟩:=I.base.tbls b ps e;obtain⟨m2,e2⟩:=tbls b _ e1;exact⟨m1++m2,by rw[e2,Array.append_assoc]⟩
 ·obtain⟨m,hn,hl⟩:=I.loc;refine⟨m,ns m hn,λi x v e1 e2 e3=>?_⟩;obtain⟨u,r,l⟩:=hl i x v e1 e2 e3;refine⟨u,r,?_⟩;rcases l with l |⟨k,c,e,z⟩
  ·exact .inl l
  ·exact .inr ⟨k,c,e,cellK x c e _ z⟩
 ·obtain⟨v,z⟩:=I.cell x c e;exact⟨v,cellK x c e v z⟩
 ·obtain⟨m,⟨o,_,_,ho,_⟩,_⟩:=I.loc;exact free _ o (λz=>(hch _ z).2.1 rfl) ho I.free
 ·obtain⟨v,o,ho,hd⟩:=I.cell x c e;exact free c o (λz=>(hch c z).2.2.1 x c e rfl) ho (I.freeC x c e)
 ·obtain⟨e,n,ne,nf,d⟩:=I.pin p hp;have nch:p.1∉ch:=λz=>(hch p.1 z).2.2.2 p hp rfl
  exact⟨keep p.1 p.2 ne nf nch e n,free p.1 p.2 nch e n,ne,nf,d⟩
theorem Inv.un{t':Nat}(I:Inv X pins σ H s)(u:Un X.fs [] H H' s.heap h')(hok:HOk X.prog X.w H' h'):Inv X pins σ H' { s with heap:=h',toks:=t' }:=by
 obtain⟨m,⟨o,es,ep,ho,r⟩,_⟩:=id I.loc;obtain⟨sl,hL⟩:=u.any ho I.free (by simp);exact I.step (g':=s.gens) (d':=s.drawn) (ch:=[]) (λ_ z=>nomatch z) (λb o _ hb _ e n=>u.keep b o e n hb (by simp)) (λb o _ hb _ e n=>u.slot b o e n hb (by simp)) (λb o _ e n=>u.free b o e n (by simp)) (λb o _ e=>u.there b o e (by simp)) u.tups u.frzs u.tbls (λm' hm=>by
  obtain⟨o',es',ep',ho',r'⟩:=hm;rw[ho]at ho';cases ho';exact⟨_,es',ep',hL,r'⟩) hok I.bare
theorem Inv.call{g':Array GenState}{t':Nat}{d':Drawn}{ch:List Addr}(I:Inv X pins σ H s)(u:Un (frs X.stack) ch H H' s.heap h')(hok:HOk X.prog X.w H' h')(hg:AllBare g')
  (hch:∀b∈ch,(b∈X.ex\/X.s₀.heap.objs.size<=b)/\b≠X.env.locals/\(∀x c,X.env.cells.lookup x=some c->c≠b)/\∀p∈X.pn++pins,p.1≠b) :
  Inv X pins σ H' { s with heap:=h',gens:=g',drawn:=d',toks:=t' }:=by
 obtain⟨m,⟨o,es,ep,ho,r⟩,_⟩:=id I.loc;obtain⟨sl,hL⟩:=u.any ho I.free λz=>(hch _ z).2.1 rfl
 exact I.step (ch:=ch) hch (λb o hL hb hc e n=>u.keep b o e n (λz=>(xAa.mp (I.stkSub b z)).elim hL hb) hc) (λb o _ _ hc e n=>u.any e n hc) (λb o hc e n=>u.free b o e n hc) (λb o hc e=>u.there b o e hc) u.tups u.frzs u.tbls (λm' hm=>by
  obtain⟨o',es',ep',ho',r'⟩:=hm;rw[ho]at ho';cases ho';exact⟨_,es',ep',hL,r'⟩) hok hg
theorem Inv.turned{t':Nat}{it:Addr}(I:Inv X pins σ H s)(k:∀b o,b≠it->s.heap.get? b=some o->h'.get? b=some o)(hn:H it=none)(hL:it≠X.env.locals)
  (h1:it∈X.ex\/X.s₀.heap.objs.size<=it) (h2:∀x c,X.env.cells.lookup x=some c->c≠it) (h3:∀p∈X.pn++pins,p.1≠it):Inv X pins σ H { s with heap:=h',toks:=t' }:=by
 have nit:∀b u,H b=some u->b≠it:=λb u e z=>by rw[z,hn]at e;cases e
 refine I.step (g':=s.gens) (d':=s.drawn) (ch:=[it]) (λb hb=>?_) (λb o _ _ hc e _=>k b o (λz=>hc (by simp[z])) e) (λb o _ _ hc e _=>⟨o.slots,k b o (λz=>hc (by simp[z])) e⟩) (λ_ _ _ _ n=>n)
  (λb o hc e=>⟨o,k b o (λz=>hc (by simp[z])) e⟩) (λ_ _ e=>e) (λ_ _ _ e=>e) (λb ps e=>⟨(List.toArray []),by rw[e];simp⟩) (λm hm=>?_) (λb u e=>?_) I.bare
 ·have e:b=it:=by simpa using hb
  subst e;exact⟨h1,hL,h2,h3⟩
 ·obtain⟨o,es,ep,ho,r⟩:=hm;exact⟨o,es,ep,k _ o (Ne.symm hL) ho,r⟩
 ·refine(I.hok b u e).stay (λc v hc q=>k c v ?_ q) (λ_ q=>q) λ_ _ q=>q
  rcases hc with z|z
  ·rw[z];exact nit b u e
  ·exact nit c _ z
theorem Inv.tok(I:Inv X pins σ H s)(t:Nat):Inv X pins σ H { s with toks:=t }:=I.un (h':=s.heap) (t':=t) Un.refl I.hok
theorem Inv.kept{t':Nat}(I:Inv X pins σ H s)(k:∀b u,s.heap.get? b=some u->h'.get? b=some u):Inv X pins σ H { s with heap:=h',toks:=t' }:=I.un (Un.kept k) (I.hok.kept k)
theorem Inv.laid{a:Addr}{o:HO}{t':Nat}(I:Inv X pins σ H s)(k:∀b u,s.heap.get? b=some u->h'.get? b=some u)(hp:s.heap.objs.size<=a)(new:zbh X.prog X.w (upd H a o) h' a o) :
  Inv X pins σ (upd H a o) { s with heap:=h',toks:=t' }:=I.un (Un.laid k hp (I.hok.fresh hp)) (I.hok.laid k hp new)
theorem Inv.write{x e:Addr}{o:HO}{t':Nat}(I:Inv X pins σ H s)(mu:Mut (H x))(he:e=x\/H e=some (.own x))(k:∀b u,b≠e->s.heap.get? b=some u->h'.get? b=some u)(heo:∃u,h'.get? e=some u)
  (new:zbh X.prog X.w (upd H x o) h' x o):Inv X pins σ (upd H x o) { s with heap:=h',toks:=t' }:=I.un (Un.write mu he k heo) (I.hok.write mu he k heo new)
theorem Inv.pins_of{pins':List (Addr×Obj)}(I:Inv X pins σ H s)(h:∀p∈pins',s.heap.get? p.1=some p.2/\H p.1=none/\p.1≠X.env.locals/\p.1∉X.fs/\∀v,p.2.data≠.cell v):Inv X pins' σ H s :=
 ⟨I.ok,I.os,I.bare,I.base,I.loc,I.cell,I.free,I.freeC,λp hp=>(xAB.mp hp).elim (λz=>I.pin p (xAG _ z)) (h p),I.hok,I.len⟩
theorem zfd{N:List Str}(hN:N.Nodup){i j:Nat}{x:Str}(a:N[i]?=some x)(b:N[j]?=some x):i=j:=by
 obtain⟨h1,e1⟩:=xAo.mp a;obtain⟨h2,e2⟩:=xAo.mp b;exact(List.getElem_inj hN).mp (e1.trans e2.symm)
theorem yfD{M:Model}{A:Around}{E:Value->Shared->Prop}{i:Nat}{x:Str}{v:V}{u:Value}{Q:Unit->Shared->Prop}(I:Inv X pins σ H s)(hN:X.N.Nodup)(hi:X.N[i]?=some x)(hx:Loc X.env.scope x)(r:RelV v u)
  (h:∀s',Inv X pins (σ.set i (some v)) H s'->(∃a,Heap.SameBut a s.heap s'.heap/\(a=X.env.locals\/X.env.cells.lookup x=some a))->Q Unit.unit s') (hf:X.fn x=true\/X.env.scope.names.lookup x=some .local:=by first|exact .inl rfl|exact .inr rfl|assumption):wpAny M A (storeName X.env x u) Q E s:=by
 obtain⟨m,hn,hl⟩:=id I.loc;have hcls:(X.env.scope.kind==.class||(X.env.scope.kind==.module&&X.env.locals != X.env.globals))=false:=by rw[I.ok.kind];rfl
 have hiσ:i < σ.length:=by rw[I.len];exact(xAo.mp hi).1
 have cne:=I.cne;have tracked:∀ {a:Addr} {h':Heap},(∃o,s.heap.get? a=some o/\H a=none)->Heap.SameBut a s.heap h'->HOk X.prog X.w H h':=λ{a h'} ha hs b ob e=>by
  obtain⟨_,_,hfree⟩:=ha;refine(I.hok b ob e).stay (λc w' hc q=>(hs.2 c ?_).trans q) (λ_ q=>q) λ_ _ q=>q
  rintro rfl;rcases hc with rfl|hc
  ·rw[hfree]at e;cases e
  ·rw[hfree]at hc;cases hc
 rcases hx with hk|hk
 ·refine wpAny_storeName_local hk hn (λh' hn' hs=>?_) hcls;obtain⟨oL,_,_,hoL,_⟩:=id hn;refine h _ ⟨I.ok,I.os,I.bare,⟨λb o e n hb hx=>?_,λb o e n hb hx=>?_,I.base.free,λb o e hx=>?_,I.base.tups,I.base.frzs,I.base.tbls⟩,⟨_,hn',λj y v' e1 e2 e3=>?_⟩,λy c e=>?_,I.free,I.freeC,λp hp=>?_,tracked ⟨oL,hoL,I.free⟩ hs,by simpa using I.len⟩ ⟨_,hs,.inl rfl⟩
  ·exact(hs.2 b (xAy (xAp (xAc e) I.ok.above))).trans (I.base.keep b o e n hb hx)
  ·obtain⟨sl,e1⟩:=I.base.slot b o e n hb hx;exact⟨sl,(hs.2 b (xAy (xAp (xAc e) I.ok.above))).trans e1⟩
  ·obtain⟨o',e1⟩:=I.base.there b o e hx;exact⟨o',(hs.2 b (xAy (xAp (xAc e) I.ok.above))).trans e1⟩
  ·by_cases hj:j=i
   ·subst hj;rw[hi]at e1;cases e1;rw[List.getElem?_set_self hiσ]at e2;cases e2;exact⟨u,r,.inl ⟨hk,by simp⟩⟩
   ·rw[List.getElem?_set_ne (Ne.symm hj)]at e2;obtain⟨u',r',q⟩:=hl j y v' e1 e2 e3;refine⟨u',r',?_⟩;rcases q with⟨k,e⟩ |⟨k,c,e,z⟩
    ·refine .inl ⟨k,?_⟩;have:y≠x:=λe=>hj (zfd hN e1 (e ▸ hi))
     simp[this,e]
    ·exact .inr ⟨k,c,e,z.sameBut hs (cne y c e)⟩
  ·obtain⟨w',z⟩:=I.cell y c e;exact⟨w',z.sameBut hs (cne y c e)⟩
  ·obtain⟨e,n,ne,nf,d⟩:=I.pin p hp;exact⟨(hs.2 p.1 ne).trans e,n,ne,nf,d⟩
 ·have hfn:X.fn x=true:=by
   rcases hf with z|z
   ·exact z
   ·rw[z]at hk;cases hk
  obtain⟨c,hc⟩:=I.ok.has x (.inl hk);obtain⟨w',z⟩:=I.cell x c hc;refine wpAny_storeName_cell I.ok.kind hk hc z (λh' hc' hs=>?_);obtain⟨oc,hoc,hocd⟩:=id z;refine h { s with heap:=h' } ⟨I.ok,I.os,I.bare,⟨λb o e n hb hx=>?_,λb o e n hb hx=>?_,I.base.free,λb o e hx=>?_,I.base.tups,I.base.frzs,I.base.tbls⟩,⟨m,hn.sameBut hs (Ne.symm (cne x c hc)),λj y v' e1 e2 e3=>?_⟩,λy c' e=>?_,I.free,I.freeC,λp hp=>?_,tracked ⟨oc,hoc,I.freeC x c hc⟩ hs,by simpa using I.len⟩ ⟨c,hs,.inr hc⟩
  ·exact(hs.2 b (xAy (xAp (xAc e) (I.ok.cab x c hfn hc)))).trans (I.base.keep b o e n hb hx)
  ·obtain⟨sl,e1⟩:=I.base.slot b o e n hb hx;exact⟨sl,(hs.2 b (xAy (xAp (xAc e) (I.ok.cab x c hfn hc)))).trans e1⟩
  ·obtain⟨o',e1⟩:=I.base.there b o e hx;exact⟨o',(hs.2 b (xAy (xAp (xAc e) (I.ok.cab x c hfn hc)))).trans e1⟩
  ·by_cases hj:j=i
   ·subst hj;rw[hi]at e1;cases e1;rw[List.getElem?_set_self hiσ]at e2;cases e2;exact⟨u,r,.inr ⟨.inl hk,c,hc,hc'⟩⟩
   ·rw[List.getElem?_set_ne (Ne.symm hj)]at e2;obtain⟨u',r',q⟩:=hl j y v' e1 e2 e3;refine⟨u',r',?_⟩;rcases q with q |⟨k,c',e,z'⟩
    ·exact .inl q
    ·refine .inr ⟨k,c',e,z'.sameBut hs ?_⟩;rintro rfl;exact hj (zfd hN e1 (I.ok.inj _ _ _ e hc ▸ hi))
  ·by_cases hcc:c'=c
   ·subst hcc;exact⟨_,hc'⟩
   ·obtain⟨w2,z2⟩:=I.cell y c' e;exact⟨w2,z2.sameBut hs hcc⟩
  ·obtain⟨e,n,ne,nf,d⟩:=I.pin p hp;refine⟨(hs.2 p.1 ?_).trans e,n,ne,nf,d⟩;intro q;rw[q,hoc]at e;have q':oc=p.2:=xAw e;exact d w' (by rw[<-q'];exact hocd)
theorem ya1{M:Model}{A:Around}{E:Value->Shared->Prop}{i:Nat}{x:Str}{v:V}{u:Value}{Q:Unit->Shared->Prop}(I:Inv X pins σ H s)(hN:X.N.Nodup)(hi:X.N[i]?=some x)(hx:Loc X.env.scope x)(r:RelV v u)
  (h:∀s',Inv X pins (σ.set i (some v)) H s'->Q Unit.unit s') (hf:X.fn x=true\/X.env.scope.names.lookup x=some .local:=by first|exact .inl rfl|exact .inr rfl|assumption):wpAny M A (storeName X.env x u) Q E s :=
 yfD I hN hi hx r (λs' I' _=>h s' I') hf
theorem Inv.call'{s':Shared}{ch:List Addr}(I:Inv X pins σ H s)(ho:s'.os=s.os)(u:Un (frs X.stack) ch H H' s.heap s'.heap)(hok:HOk X.prog X.w H' s'.heap)(hg:AllBare s'.gens)
  (hch:∀b∈ch,(b∈X.ex\/X.s₀.heap.objs.size<=b)/\b≠X.env.locals/\(∀x c,X.env.cells.lookup x=some c->c≠b)/\∀p∈X.pn++pins,p.1≠b):Inv X pins σ H' s':=by
 obtain⟨h',g',d',t',o'⟩:=s';have e:o'=s.os:=ho;subst e;exact I.call (g':=g') (t':=t') (d':=d') u hok hg hch
end
noncomputable abbrev XK:=Value->Option Addr->Hp->Prop
noncomputable abbrev St:=List (Option V)
noncomputable abbrev VK:=V->Hp->Prop
noncomputable abbrev TE:=St->Hp->VK->Prop
noncomputable abbrev TT:=St->Hp->(Bool->Hp->Prop)->Prop
noncomputable abbrev TA:=St->Hp->(List V->Hp->Prop)->Prop
structure Ends where
 nx:St->Hp->Prop
 rt:VK
 bk:St->Hp->Prop:=λ_ _=>False
 ct:St->Hp->Prop:=λ_ _=>False
noncomputable abbrev TS:=Ends->St->Hp->Prop
noncomputable def EP(X:Cx)(pins:List (Addr×Obj))(σ:St)(Q:VK)(u:Value)(s':Shared):Prop:=∃v H',Inv X pins σ H' s'/\RelV v u/\Q v H'
noncomputable def TP(X:Cx)(pins:List (Addr×Obj))(σ:St)(Q:Bool->Hp->Prop)(b:Bool)(s':Shared):Prop:=∃H',Inv X pins σ H' s'/\Q b H'
noncomputable def AP(X:Cx)(pins:List (Addr×Obj))(σ:St)(Q:List V->Hp->Prop)(us:List Value)(s':Shared):Prop:=∃vs H',Inv X pins σ H' s'/\Vals vs us/\Q vs H'
noncomputable def SP(X:Cx)(pins:List (Addr×Obj))(D:Ends)(f:Flow)(s':Shared):Prop :=
 match f with
 | .next=>∃σ' H',Inv X pins σ' H' s'/\D.nx σ' H'
 | .brk=>∃σ' H',Inv X pins σ' H' s'/\D.bk σ' H'
 | .cont=>∃σ' H',Inv X pins σ' H' s'/\D.ct σ' H'
 | .ret u=>∃v σ' H',Inv X pins σ' H' s'/\RelV v u/\D.rt v H'
noncomputable def PE(X:Cx)(e:Expr)(t:TE):Prop :=
 ∀(pins:List (Addr×Obj)) (s:Shared) (σ:St) (H:Hp) (Q:VK),Inv X pins σ H s->t σ H Q->wpAny (model X.prog X.w) X.A (eval e X.env) (EP X pins σ Q) X.xe s
noncomputable def PT(X:Cx)(e:Expr)(t:TT):Prop :=
 ∀(pins:List (Addr×Obj)) (s:Shared) (σ:St) (H:Hp) (Q:Bool->Hp->Prop),Inv X pins σ H s->t σ H Q->wpAny (model X.prog X.w) X.A (isTrue e X.env (eval e X.env)) (TP X pins σ Q) X.xe s
noncomputable def PW(X:Cx)(e:Expr)(t:TT):Prop :=
 ∀(whole:Sem Value) (pins:List (Addr×Obj)) (s:Shared) (σ:St) (H:Hp) (Q:Bool->Hp->Prop),Inv X pins σ H s->t σ H Q->wpAny (model X.prog X.w) X.A (isTrue e X.env whole) (TP X pins σ Q) X.xe s
theorem PW.pt{X:Cx}{e:Expr}{t:TT}(h:PW X e t):PT X e t:=h _
noncomputable def PA(X:Cx)(es:List Expr)(t:TA):Prop :=
 ∀(pos:Pos) (pins:List (Addr×Obj)) (s:Shared) (σ:St) (H:Hp) (Q:List V->Hp->Prop),Inv X pins σ H s->t σ H Q->wpAny (model X.prog X.w) X.A (spliced (backTo pos (starEach es X.env))) (AP X pins σ Q) X.xe s
noncomputable def PS(X:Cx)(st:Stmt)(t:TS):Prop :=
 ∀(pins:List (Addr×Obj)) (s:Shared) (σ:St) (H:Hp) (D:Ends),Inv X pins σ H s->t D σ H->wpAny (model X.prog X.w) X.A (exec st X.env) (SP X pins D) X.xe s
noncomputable def PSs(X:Cx)(st:List Stmt)(t:TS):Prop :=
 ∀(pins:List (Addr×Obj)) (s:Shared) (σ:St) (H:Hp) (D:Ends),Inv X pins σ H s->t D σ H->wpAny (model X.prog X.w) X.A (execs st X.env) (SP X pins D) X.xe s
theorem thn{α:Type}{t:Sem α}{Q Q':α->Shared->Prop}{M:Model}{A:Around}{E:Value->Shared->Prop}{s:Shared}(h:wpAny M A t Q E s)(hQ:∀a s,Q a s->Q' a s):wpAny M A t Q' E s:=xAQ h hQ λ_ _ x=>x
end L2
namespace L2
open PySem PySem.Spec PyProof.Rows
section
variable {X:Cx}
theorem bin{a b:Expr}{ta tb:TE}(ha:PE X a ta)(hb:PE X b tb){pins:List (Addr×Obj)}{s:Shared}{σ:St}{H:Hp}{R:V->V->Hp->Prop}(I:Inv X pins σ H s)(h:ta σ H λx H1=>tb σ H1 λy H2=>R x y H2)
  {α:Type} {Q:α->Shared->Prop} {f:Value->Value->Sem α}
  (hf:∀v u s2 x y H2,Inv X pins σ H2 s2->RelV x v->RelV y u->R x y H2->wpAny (model X.prog X.w) X.A (f v u) Q X.xe s2) :
  wpAny (model X.prog X.w) X.A (eval a X.env) (λv s₁=>wpAny (model X.prog X.w) X.A (eval b X.env) (λu s₂=>wpAny (model X.prog X.w) X.A (f v u) Q X.xe s₂) X.xe s₁) X.xe s:=by
 refine thn (ha pins s σ H _ I h) λv s1 ⟨x,H1,I1,r1,q1⟩=>?_
 refine thn (hb pins s1 σ H1 _ I1 q1) λu s2 ⟨y,H2,I2,r2,q2⟩=>?_
 exact hf v u s2 x y H2 I2 r1 r2 q2
noncomputable def tVar(i:Nat):TE:=λσ H Q=>∃v,σ[i]?=some (some v)/\Q v H
noncomputable def tC(v:V):TE:=λ_ H Q=>Q v H
theorem yil{i:Nat}{x:Str}{pos:Pos}(hN:X.N[i]?=some x)(hv:Vis X.env.scope x)(hd:(x==("__debug__":Str))=false:=by decide)(hcd:(x==("__classdict__":Str))=false:=by decide):PE X (.Name x pos) (tVar i):=by
 intro pins s σ H Q I h;obtain⟨v,e,h⟩:=h;obtain⟨m,hn,hl⟩:=I.loc;obtain⟨u,r,l⟩:=hl i x v hN e hv;have fin:EP X pins σ Q u s:=⟨v,H,I,r,h⟩
 rcases l with⟨hk,hm⟩ |⟨hk,c,hc,hcell⟩
 ·exact wpAny_Name (wpAny_loadName_local I.ok.kind hk hn hm fin) hd
 ·rcases hk with hk|hk
  ·exact wpAny_Name (wpAny_loadName_cell I.ok.kind hk hc hcell fin) hd
  ·exact wpAny_Name (wpAny_loadName_free I.ok.kind hk hc hcell fin hcd) hd
theorem yac{i j pos}:PE X (.Constant (.int i) j pos) (tC (.int i)):=λ_ _ _ H _ I h=>wpAny_Constant_int ⟨.int i,H,I.tok _,⟨_,rfl⟩,h⟩
theorem yeA{b j pos}:PE X (.Constant (.bool b) j pos) (tC (.bl b)):=λ_ _ _ H _ I h=>Constant_bool ⟨.bl b,H,I,rfl,h⟩
theorem yaN{x j pos}:PE X (.Constant (.str x) j pos) (tC (.str x)):=λ_ _ _ H _ I h=>Calls.Constant_str ⟨.str x,H,I.tok _,⟨_,rfl⟩,h⟩
noncomputable def Gl(X:Cx)(x:Str):Prop:=X.env.kindOf x=some .globalImplicit
theorem yfY{E:Value->Shared->Prop}{pins:List (Addr×Obj)}{s:Shared}{σ:St}{H:Hp}{x:Str}{u:Value}{pos:Pos}{Q:Value->Shared->Prop}(I:Inv X pins σ H s)(hg:Gl X x)(hm:X.mg x=some u)(h:Q u s)
  (hd:(x==("__debug__":Str))=false:=by decide):wpAny (model X.prog X.w) X.A (eval (.Name x pos) X.env) Q E s :=
 Calls.Name_function_global I.ok.kind hg (Calls.loadGlobal_global (by rw[I.ok.glob];exact I.mod.glob.keeps I.bk) hm h) hd
theorem ybE{E:Value->Shared->Prop}{pins:List (Addr×Obj)}{s:Shared}{σ:St}{H:Hp}{x:Str}{u:Value}{pos:Pos}{Q:Value->Shared->Prop}(I:Inv X pins σ H s)(hg:Gl X x)(hm:X.mg x=none)(hv:bootBuiltins x=some u)(h:Q u s)
  (hn:x≠"__name__":=by decide) (hd:(x==("__debug__":Str))=false:=by decide):wpAny (model X.prog X.w) X.A (eval (.Name x pos) X.env) Q E s:=by
 obtain⟨mb,h1,h2⟩:=I.mod.blt;exact Calls.Name_function_global I.ok.kind hg (Calls.loadGlobal_builtin (by rw[I.ok.glob];exact I.mod.glob.keeps I.bk) hm (by rw[I.ok.blt];exact h1.keeps I.bk) ((h2 x hn).trans hv) h) hd
theorem yhR{x:Str}{v:V}{u:Value}{pos:Pos}(hg:Gl X x)(hm:X.mg x=some u)(r:RelV v u)(hd:(x==("__debug__":Str))=false:=by decide):PE X (.Name x pos) (tC v) :=
 λ_ _ _ H _ I h=>yfY I hg hm ⟨v,H,I,r,h⟩ hd
noncomputable def t2I(ta tb:TE)(k:Int->Int->Hp->Prop):St->Hp->Prop:=λσ H=>ta σ H λx H1=>tb σ H1 λy H2=>∃i j,x = .int i/\y = .int j/\k i j H2
variable {a b:Expr} {ta tb:TE} {pos:Pos}
noncomputable def PC(X:Cx)(op:CmpOp)(a b:Expr)(t:TE):Prop :=
 ∀(pins:List (Addr×Obj)) (s:Shared) (σ:St) (H:Hp) (Q:VK),Inv X pins σ H s->t σ H Q->
  wpAny (model X.prog X.w) X.A (eval a X.env) (λv s₁=>wpAny (model X.prog X.w) X.A (eval b X.env) (λu s₂=>wpAny (model X.prog X.w) X.A (compareOp op v u) (EP X pins σ Q) X.xe s₂) X.xe s₁) X.xe s
noncomputable def tCmp(p:Int->Int->Bool)(ta tb:TE):TE:=λσ H Q=>t2I ta tb (λi j H2=>Q (.bl (p i j)) H2) σ H
noncomputable abbrev tLt:TE->TE->TE:=tCmp λi j=>decide (i<j)
noncomputable abbrev tLe:TE->TE->TE:=tCmp λi j=>decide (i<=j)
noncomputable abbrev tGt:TE->TE->TE:=tCmp λi j=>decide (j<i)
noncomputable abbrev tGe:TE->TE->TE:=tCmp λi j=>decide (j<=i)
noncomputable abbrev tEqI:TE->TE->TE:=tCmp λi j=>decide (i=j)
noncomputable abbrev tNeI:TE->TE->TE:=tCmp λi j=>!decide (i=j)
noncomputable def tB(t:TE):TT:=λσ H Q=>t σ H λx H1=>∃c,x = .bl c/\Q c H1
theorem pt_cmp{op:CmpOp}{t:TE}(h:PC X op a b t)(h1:behindInMarks op b=false:=by first|exact nobehind _ #[] #[]|rfl):PT X (.Compare a [op] [b] pos) (tB t):=by
 intro pins s σ H Q I hw;refine wpAny_isTrue_Compare1 (thn (h pins s σ H _ I hw) λv s1 h1=>thn h1 λu s2 h2=>thn h2 λc s3 ⟨x,H1,I1,r1,q1⟩=>?_) h1;obtain⟨d,rfl,q⟩:=q1;cases r1;exact wpAny_truthy_bool ⟨H1,I1,q⟩
theorem zdj{e:Expr}{t:TE}(h:PE X e t)(he:∀whole,isTrue e X.env whole=(do let v <-whole;standAt e.pos;holding [v] (truthy v)):=by intro _;rfl):PT X e (tB t):=by
 intro pins s σ H Q I hw;refine isTrue_plain (thn (h pins s σ H _ I hw) λv s1 ⟨x,H1,I1,r1,q1⟩=>?_) (he _);obtain⟨d,rfl,q⟩:=q1;cases r1;exact wpAny_truthy_bool ⟨H1,I1,q⟩
variable {tA tB':TT} {rest:List Expr}
noncomputable def tAnd(t u:TT):TT:=λσ H Q=>t σ H λc H1=>if c=true then u σ H1 Q else Q false H1
noncomputable def tOr(t u:TT):TT:=λσ H Q=>t σ H λc H1=>if c=true then Q true H1 else u σ H1 Q
noncomputable def tNot(t:TT):TT:=λσ H Q=>t σ H λc H1=>Q (!c) H1
theorem zds(ha:PT X a tA):PW X (.BoolOp .And [a] pos) tA:=by
 intro wh pins s σ H Q I h;refine isTrue_and (thn (ha pins s σ H Q I h) λc s1 e=>?_);cases c with
 |true=>exact isTrue_and_nil e
 |false=>exact e
theorem zde(ha:PT X a tA):PW X (.BoolOp .Or [a] pos) tA:=by
 intro wh pins s σ H Q I h;refine isTrue_or (thn (ha pins s σ H Q I h) λc s1 e=>?_);cases c with
 |false=>exact isTrue_or_nil e
 |true=>exact e
theorem yeZ(ha:PT X a tA)(hb:PW X (.BoolOp .And (b::rest) pos) tB'):PW X (.BoolOp .And (a::b::rest) pos) (tAnd tA tB'):=by
 intro wh pins s σ H Q I h;refine isTrue_and (thn (ha pins s σ H _ I h) λc s1 ⟨H1,I1,q1⟩=>?_);cases c with
 |true=>exact hb wh pins s1 σ H1 Q I1 q1
 |false=>exact⟨H1,I1,q1⟩
theorem yfp(ha:PT X a tA)(hb:PW X (.BoolOp .Or (b::rest) pos) tB'):PW X (.BoolOp .Or (a::b::rest) pos) (tOr tA tB'):=by
 intro wh pins s σ H Q I h;refine isTrue_or (thn (ha pins s σ H _ I h) λc s1 ⟨H1,I1,q1⟩=>?_);cases c with
 |true=>exact⟨H1,I1,q1⟩
 |false=>exact hb wh pins s1 σ H1 Q I1 q1
theorem ygr(ha:PT X a tA):PT X (.UnaryOp .Not a pos) (tNot tA):=by
 intro pins s σ H Q I h;exact isTrue_not (ha pins s σ H (λc H1=>Q (!c) H1) I h)
noncomputable def ziu(ta tb:TE):TE:=λσ H Q=>ta σ H λx H1=>∃c,x = .bl c/\if c=true then tb σ H1 Q else Q (.bl false) H1
noncomputable def tOrV(ta tb:TE):TE:=λσ H Q=>ta σ H λx H1=>∃c,x = .bl c/\if c=true then Q (.bl true) H1 else tb σ H1 Q
theorem yfP{op}{t:TE}(h:PE X a t):PE X (.BoolOp op [a] pos) t:=λpins s σ H Q I hw=>BoolOp_one (h pins s σ H Q I hw)
theorem zg7(ha:PE X a ta)(hb:PE X (.BoolOp .And (b::rest) pos) tb):PE X (.BoolOp .And (a::b::rest) pos) (ziu ta tb):=by
 intro pins s σ H Q I h;refine BoolOp_and (thn (ha pins s σ H _ I h) λv s1 ⟨x,H1,I1,r1,q1⟩=>?_);obtain⟨c,rfl,q1⟩:=q1;cases r1;refine wpAny_truthy_bool ?_;cases c with
 |true=>exact hb pins s1 σ H1 Q I1 q1
 |false=>exact⟨.bl false,H1,I1,rfl,q1⟩
theorem yif(ha:PE X a ta)(hb:PE X (.BoolOp .Or (b::rest) pos) tb):PE X (.BoolOp .Or (a::b::rest) pos) (tOrV ta tb):=by
 intro pins s σ H Q I h;refine BoolOp_or (thn (ha pins s σ H _ I h) λv s1 ⟨x,H1,I1,r1,q1⟩=>?_);obtain⟨c,rfl,q1⟩:=q1;cases r1;refine wpAny_truthy_bool ?_;cases c with
 |false=>exact hb pins s1 σ H1 Q I1 q1
 |true=>exact⟨.bl true,H1,I1,rfl,q1⟩
noncomputable def tIf(t:TT)(ta tb:TE):TE:=λσ H Q=>t σ H λc H1=>if c=true then ta σ H1 Q else tb σ H1 Q
theorem ygZ{c:Expr}(hc:PT X c tA)(ha:PE X a ta)(hb:PE X b tb):PE X (.IfExp c a b pos) (tIf tA ta tb):=by
 intro pins s σ H Q I h;refine wpAny_IfExp (thn (hc pins s σ H _ I h) λd s1 ⟨H1,I1,q1⟩=>?_);cases d with
 |true=>exact ha pins s1 σ H1 Q I1 q1
 |false=>exact hb pins s1 σ H1 Q I1 q1
end
end L2
namespace L2
open PySem PySem.Spec PyProof.Rows
noncomputable def SqL(K:PySem.W.Frag)(H:Hp)(a:Addr)(xs:List V):Prop :=
 Rd H a (.lst xs)\/
  ∃(o:Obj) (its:Array Value) (n:Nat),K.lookup a=some o/\o.cls = .type "list"/\o.dict=none/\o.data = .seq its n/\its.size<=sizeLine/\Vals xs its.toList
noncomputable def SqT(K:PySem.W.Frag)(H:Hp)(a:Addr)(xs:List V):Prop :=
 Rd H a (.tup xs)\/
  ∃(o:Obj) (its:Array Value) (n:Nat),K.lookup a=some o/\o.cls = .type "tuple"/\o.data = .seq its n/\its.size<=sizeLine/\Vals xs its.toList
noncomputable def absV:Value->Option V
 | .none=>some .non
 | .bool b=>some (.bl b)
 | .int i _=>some (.int i)
 | .str x _=>some (.str x)
 | .bytes b _=>some (.byt b)
 | .float b _=>some (.flt b)
 | .ref a=>some (.ref a)
 | .type n=>some (.ty n)
 |_=>none
theorem RelV.abs{x:V}{u:Value}(r:RelV x u):absV u=some x:=by
 cases x with
 |non=>cases r;rfl
 |bl _=>cases r;rfl
 |int _=>obtain⟨t,rfl⟩:=r;rfl
 |str _=>obtain⟨t,rfl⟩:=r;rfl
 |byt _=>obtain⟨t,rfl⟩:=r;rfl
 |flt _=>obtain⟨t,rfl⟩:=r;rfl
 |ref _=>cases r;rfl
 |ty _=>cases r;rfl
theorem RelV.inj{x y:V}{u:Value}(r:RelV x u)(q:RelV y u):x=y:=xAw (r.abs.symm.trans q.abs)
theorem Vals.inj:∀ {xs ys:List V} {us:List Value},Vals xs us->Vals ys us->xs=ys
 |_,_,_,.nil,.nil=>rfl
 |_,_,_,.cons r t,.cons r' t'=>by rw[r.inj r',Vals.inj t t']
section
variable {X:Cx} {pins:List (Addr×Obj)} {σ:St} {H:Hp} {s:Shared} {a:Addr} {xs ys:List V}
theorem SqL.of{K:PySem.W.Frag}(h:H a=some (.lst xs)):SqL K H a xs:=.inl (.inl h)
theorem SqT.of{K:PySem.W.Frag}(h:H a=some (.tup xs)):SqT K H a xs:=.inl (.inl h)
theorem Inv.list(I:Inv X pins σ H s)(h:SqL X.K H a xs):∃its:List Value,Vals xs its/\PlainL s.heap a its.toArray/\xs.length<=sizeLine:=by
 rcases h with h |⟨o,its,n,hk,hc,hd,hs,hz,r⟩
 ·obtain⟨z,its,n,r,e⟩:=h.ok I.hok;exact⟨its,r,⟨_,n,e,rfl,rfl,rfl⟩,z⟩
 ·refine⟨its.toList,r,⟨o,n,I.kIn a o hk,hc,hd,by simpa using hs⟩,?_⟩;have e:=r.length;simp only[xAl]at e;omega
theorem Inv.tuple(I:Inv X pins σ H s)(h:SqT X.K H a xs):∃its:List Value,Vals xs its/\IsTup s.heap a its.toArray/\xs.length<=sizeLine:=by
 rcases h with h |⟨o,its,n,hk,hc,hs,hz,r⟩
 ·obtain⟨z,its,r,p⟩:=h.ok I.hok;exact⟨its,r,p,z⟩
 ·refine⟨its.toList,r,⟨o,I.kIn a o hk,hc,n,by simpa using hs⟩,?_⟩;have e:=r.length;simp only[xAl]at e;omega
theorem Inv.list_inj(I:Inv X pins σ H s)(h:SqL X.K H a xs)(h':SqL X.K H a ys):xs=ys:=by
 obtain⟨its,r,⟨o,n,e,_,_,d⟩,_⟩:=I.list h;obtain⟨its',r',⟨o',n',e',_,_,d'⟩,_⟩:=I.list h';rw[e]at e';cases e';rw[d]at d';injection d' with d1 _;have:its=its':=by simpa using congrArg Array.toList d1
 subst this;exact r.inj r'
theorem Inv.tuple_inj(I:Inv X pins σ H s)(h:SqT X.K H a xs)(h':SqT X.K H a ys):xs=ys:=by
 obtain⟨its,r,⟨o,e,_,n,d⟩,_⟩:=I.tuple h;obtain⟨its',r',⟨o',e',_,n',d'⟩,_⟩:=I.tuple h';rw[e]at e';cases e';rw[d]at d';injection d' with d1 _;have:its=its':=by simpa using congrArg Array.toList d1
 subst this;exact r.inj r'
end
noncomputable abbrev Cx.wish(X:Cx)(E:Value->Shared->Prop):Cx:={ X with xe:=E }
noncomputable abbrev Cx.nox(X:Cx):Cx:=X.wish λ_ _=>False
theorem Cx.Ok.wish{X:Cx}(ok:X.Ok)(E:Value->Shared->Prop):(X.wish E).Ok :=
 ⟨ok.mod,ok.kind,ok.glob,ok.blt,ok.above,ok.inj,ok.has,ok.cab,ok.hd,ok.frames,ok.stk,ok.exf,ok.bs,ok.bsz,ok.noex,ok.exfs,ok.funs,ok.frf⟩
theorem Cx.Ok.unwish{X:Cx}{E:Value->Shared->Prop}(ok:(X.wish E).Ok):X.Ok :=
 ⟨ok.mod,ok.kind,ok.glob,ok.blt,ok.above,ok.inj,ok.has,ok.cab,ok.hd,ok.frames,ok.stk,ok.exf,ok.bs,ok.bsz,ok.noex,ok.exfs,ok.funs,ok.frf⟩
section
variable {X:Cx} {pins:List (Addr×Obj)} {σ:St} {H:Hp} {s:Shared} {E:Value->Shared->Prop}
theorem Inv.wish(I:Inv X pins σ H s)(E:Value->Shared->Prop):Inv (X.wish E) pins σ H s:=⟨I.ok.wish E,I.os,I.bare,I.base,I.loc,I.cell,I.free,I.freeC,I.pin,I.hok,I.len⟩
theorem Inv.unwish(I:Inv (X.wish E) pins σ H s):Inv X pins σ H s:=⟨I.ok.unwish,I.os,I.bare,I.base,I.loc,I.cell,I.free,I.freeC,I.pin,I.hok,I.len⟩
theorem SP.unwish{D:Ends}{f:Flow}{s':Shared}(h:SP (X.wish E) pins D f s'):SP X pins D f s':=by
 cases f with
 |next=>obtain⟨σ',H',I,q⟩:=h;exact⟨σ',H',I.unwish,q⟩
 |brk=>obtain⟨σ',H',I,q⟩:=h;exact⟨σ',H',I.unwish,q⟩
 |cont=>obtain⟨σ',H',I,q⟩:=h;exact⟨σ',H',I.unwish,q⟩
 |ret u=>obtain⟨v,σ',H',I,r,q⟩:=h;exact⟨v,σ',H',I.unwish,r,q⟩
theorem PSs.nox{st:List Stmt}{t:TS}(h:PSs X.nox st t):PSs X st t:=λpins s σ H D I hw=>
 xAQ (h pins s σ H D (I.wish _) hw) (λ_ _ q=>q.unwish) λ_ _ z=>False.elim z
end
section
variable {X:Cx} {st:Stmt} {rest:List Stmt} {t u:TS} {e:Expr} {te:TE} {pos:Pos}
noncomputable def zeh:TS:=λD σ H=>D.nx σ H
noncomputable def tSeq(t u:TS):TS:=λD σ H=>t { D with nx:=u D } σ H
theorem zas:PSs X [] zeh:=λ_ _ σ H _ I h=>wpAny_execs_nil ⟨σ,H,I,h⟩
theorem yaa(h1:PS X st t)(h2:PSs X rest u):PSs X (st::rest) (tSeq t u):=by
 intro pins s σ H D I h;refine wpAny_execs_cons (thn (h1 pins s σ H { D with nx:=u D } I h) λf s1 q=>?_);cases f with
 |next=>
  obtain⟨σ',H',I',q⟩:=q;exact h2 pins s1 σ' H' D I' q
 |ret v=>exact q
 |brk=>exact q
 |cont=>exact q
theorem yad(h1:PS X st t):PSs X [st] t:=by
 intro pins s σ H D I h;refine wpAny_execs_cons (thn (h1 pins s σ H D I h) λf s1 q=>?_);cases f with
 |next=>exact wpAny_execs_nil q
 |ret v=>exact q
 |brk=>exact q
 |cont=>exact q
theorem Inv.quiet{pins:List (Addr×Obj)}{σ:St}{H:Hp}{s:Shared}(I:Inv X pins σ H s):interactive X.env=false:=by simp[interactive,I.ok.kind]
noncomputable def yiv(te:TE):TS:=λD σ H=>te σ H λ_ H1=>D.nx σ H1
theorem zbM(he:PE X e te)(hs:swapsWith e none pos.line X.env=pure false:=by rfl):PS X (.Expr e pos) (yiv te):=by
 intro pins s σ H D I h;exact wpAny_Expr_any (thn (he pins s σ H _ I h) λv s1 ⟨x,H1,I1,r1,q1⟩=>⟨σ,H1,I1,q1⟩) I.quiet hs
noncomputable def tRet(te:TE):TS:=λD σ H=>te σ H D.rt
theorem yai(he:PE X e te):PS X (.Return (some e) pos) (tRet te):=by
 intro pins s σ H D I h;exact wpAny_Return_some (thn (he pins s σ H _ I h) λv s1 ⟨x,H1,I1,r1,q1⟩=>⟨x,σ,H1,I1,r1,q1⟩)
noncomputable def tIfS(c:TT)(t u:TS):TS:=λD σ H=>c σ H λb H1=>if b=true then t D σ H1 else u D σ H1
theorem yaS{c:Expr}{a b:List Stmt}{tc:TT}(hc:PT X c tc)(ha:PSs X a t)(hb:PSs X b u):PS X (.If c a b pos) (tIfS tc t u):=by
 intro pins s σ H D I h;refine wpAny_If (thn (hc pins s σ H _ I h) λd s1 ⟨H1,I1,q1⟩=>?_);cases d with
 |true=>exact ha pins s1 σ H1 D I1 q1
 |false=>exact hb pins s1 σ H1 D I1 q1
end
noncomputable abbrev TG:=V->St->Hp->(St->Hp->Prop)->Prop
noncomputable abbrev TGs:=List V->St->Hp->(St->Hp->Prop)->Prop
noncomputable def PG(X:Cx)(target:Expr)(t:TG):Prop :=
 ∀(pins:List (Addr×Obj)) (s:Shared) (σ:St) (H:Hp) (v:V) (u:Value) (Q:St->Hp->Prop),Inv X pins σ H s->RelV v u->t v σ H Q->
  wpAny (model X.prog X.w) X.A (assign target X.env u) (λ_ s'=>∃σ' H',Inv X pins σ' H' s'/\Q σ' H') X.xe s
noncomputable def PGs(X:Cx)(ts:List Expr)(t:TGs):Prop :=
 ∀(pins:List (Addr×Obj)) (s:Shared) (σ:St) (H:Hp) (vs:List V) (us:List Value) (Q:St->Hp->Prop),Inv X pins σ H s->Vals vs us->t vs σ H Q->
  wpAny (model X.prog X.w) X.A (assignInOrder ((assignEach ts X.env).map (·.2)) us) (λ_ s'=>∃σ' H',Inv X pins σ' H' s'/\Q σ' H') X.xe s
noncomputable abbrev TSet:=V->V->V->Hp->(Hp->Prop)->Prop
noncomputable def PSet(X:Cx)(t:TSet):Prop :=
 ∀(pins:List (Addr×Obj)) (s:Shared) (σ:St) (H:Hp) (o i v:V) (ov iv u:Value) (Q:Hp->Prop),Inv X pins σ H s->RelV o ov->RelV i iv->RelV v u->t o i v H Q->
  wpAny (model X.prog X.w) X.A (setItem ov iv u) (λ_ s'=>∃H',Inv X pins σ H' s'/\Q H') X.xe s
noncomputable abbrev TIp:=V->V->Hp->VK->Prop
noncomputable def PIp(X:Cx)(op:Operator)(t:TIp):Prop :=
 ∀(pins:List (Addr×Obj)) (s:Shared) (σ:St) (H:Hp) (x y:V) (v u:Value) (Q:VK),Inv X pins σ H s->RelV x v->RelV y u->t x y H Q->
  wpAny (model X.prog X.w) X.A (inplaceOp op v u) (EP X pins σ Q) X.xe s
section
variable {X:Cx} {pos:Pos}
noncomputable def yaw(i:Nat):TG:=λv σ H Q=>Q (σ.set i (some v)) H
theorem yae{i:Nat}{x:Str}(hN:X.N.Nodup)(hi:X.N[i]?=some x)(hx:Loc X.env.scope x)(hf:X.fn x=true\/X.env.scope.names.lookup x=some .local:=by first|exact .inl rfl|exact .inr rfl|assumption):PG X (.Name x pos) (yaw i):=by
 intro pins s σ H v u Q I r h;exact wpAny_assign_Name (ya1 I hN hi hx r (λs' I'=>⟨_,H,I',h⟩) hf)
noncomputable def gNil:TGs:=λvs σ H Q=>vs=[]/\Q σ H
noncomputable def yiw(t:TG)(u:TGs):TGs:=λvs σ H Q=>∃v r,vs=v::r/\t v σ H λσ' H'=>u r σ' H' Q
theorem yaE:PGs X [] gNil:=by
 intro pins s σ H vs us Q I r h;obtain⟨e,h⟩:=h;subst e;cases r;exact assignInOrder_nil ⟨σ,H,I,h⟩
theorem yag{e:Expr}{es:List Expr}{t:TG}{u:TGs}(h1:PG X e t)(h2:PGs X es u)
  (hs:(assignEach (e::es) X.env).map (·.2)=assign e X.env::(assignEach es X.env).map (·.2):=by rfl):PGs X (e::es) (yiw t u):=by
 intro pins s σ H vs us Q I r h;obtain⟨v,vr,e1,h⟩:=h;subst e1;cases r with
 |cons r rr=>
  rw[hs];refine assignInOrder_cons (thn (h1 pins s σ H _ _ _ I r h) λ_ s1 ⟨σ1,H1,I1,q1⟩=>?_);exact h2 pins s1 σ1 H1 _ _ Q I1 rr q1
noncomputable def gTup(K:PySem.W.Frag)(n:Nat)(t:TGs):TG:=λv σ H Q=>∃a xs,v = .ref a/\SqT K H a xs/\xs.length=n/\t xs σ H Q
theorem zaX{es:List Expr}{k:Nat}{t:TGs}{n:Nat}(hc:X.calm=true)(h:PGs X es t)
  (hn:(assignEach es X.env).length=n:=by rfl) (hst:(assignEach es X.env).findIdx? (·.1)=none:=by rfl):PG X (.Tuple es k pos) (gTup X.K n t):=by
 intro pins s σ H v u Q I r hw;obtain⟨a,xs,e1,hq,hl,hw⟩:=hw;subst e1;cases r;obtain⟨its,rv,ht,hz⟩:=I.tuple hq;refine assign_Tuple_tuple (I.ok.hd hc) ht (by simp[hn,<-hl,rv.length]) hst λh' hx=>?_
 have I1:Inv X pins σ H { s with heap:=h' }:=I.kept (t':=s.toks) λb o e=>hx b o (xAy (xAc e)) e
 exact h pins _ σ H xs _ Q I1 (by simpa using rv) hw
noncomputable def gSub(to ti:TE)(t:TSet):TG:=λv σ H Q=>to σ H λo H1=>ti σ H1 λi H2=>t o i v H2 λH3=>Q σ H3
theorem zct{o i:Expr}{to ti:TE}{t:TSet}(ho:PE X o to)(hi:PE X i ti)(hs:PSet X t)
  (ha:∀v,assign (.Subscript o i pos) X.env v=(do
   let ov <-holding [v] (eval o X.env)
   let iv <-holding [v,ov] (eval i X.env)
   standAt pos
   holding [v,ov,iv] (setItem ov iv v)
   release [v,ov,iv] []):=by intro _;rfl):PG X (.Subscript o i pos) (gSub to ti t):=by
 intro pins s σ H v u Q I r h;rw[ha];refine xA0 (xB9 (thn (ho pins s σ H _ I h) λov s1 ⟨x,H1,I1,r1,q1⟩=>?_));refine xA0 (xB9 (thn (hi pins s1 σ H1 _ I1 q1) λiv s2 ⟨y,H2,I2,r2,q2⟩=>?_));refine xA0 (wpAny_standAt (xA0 (xB9 (thn (hs pins s2 σ H2 x y v ov iv u _ I2 r1 r2 r q2) λ_ s3 ⟨H3,I3,q3⟩=>?_))));exact wpAny_release ⟨σ,H3,I3,q3⟩
noncomputable def tAsg(te:TE)(g:TG):TS:=λD σ H=>te σ H λx H1=>g x σ H1 D.nx
theorem za5{tg e:Expr}{te:TE}{g:TG}(he:PE X e te)(hg:PG X tg g)(hs:swapsWithSole [tg] e pos.line X.env=pure false:=by rfl)(hw:swappedStores [tg] e X.env=pure none:=by rfl)
  (h1:(assignEach [tg] X.env).map (·.2)=[assign tg X.env]:=by rfl):PS X (.Assign [tg] e pos) (tAsg te g):=by
 intro pins s σ H D I h;refine wpAny_Assign_stores (thn (he pins s σ H _ I h) λv s1 ⟨x,H1,I1,r1,q1⟩=>?_) hs hw;rw[h1];exact thn (hg pins s1 σ H1 x v _ I1 r1 q1) λ_ s2 q=>q
theorem yaf{i:Nat}{x:Str}{e:Expr}{te:TE}{pos':Pos}(hN:X.N.Nodup)(hi:X.N[i]?=some x)(hx:Loc X.env.scope x)(he:PE X e te)(hs:swapsWith e (some (.Name x pos')) pos.line X.env=pure false:=by rfl)(hf:X.fn x=true\/X.env.scope.names.lookup x=some .local:=by first|exact .inl rfl|exact .inr rfl|assumption) :
  PS X (.Assign [.Name x pos'] e pos) (tAsg te (yaw i)):=by
 intro pins s σ H D I h;refine wpAny_Assign_Name (thn (he pins s σ H _ I h) λv s1 ⟨y,H1,I1,r1,q1⟩=>?_) hs;exact ya1 I1 hN hi hx r1 (λs2 I2=>⟨_,H1,I2,q1⟩) hf
noncomputable def tPar(i j:Nat)(ta:TA):TS:=λD σ H=>ta σ H λvs H1=>∃v w,vs=[v,w]/\D.nx ((σ.set i (some v)).set j (some w)) H1
theorem zbI{i j:Nat}{x y:Str}{a b:Expr}{ta:TA}{px py pt:Pos}{kt k2 pt2}(hc:X.calm=true)(hN:X.N.Nodup)(hi:X.N[i]?=some x)(hj:X.N[j]?=some y)(hij:i≠j)
  (hx:X.env.scope.names.lookup x=some .local) (hy:X.env.scope.names.lookup y=some .local) (ha:PA X [a,b] ta)
  (hw:swappedStores [.Tuple [.Name x px,.Name y py] kt pt] (.Tuple [a,b] k2 pt2) X.env=pure (some [x,y]))
  (hs:swapsWithSole [.Tuple [.Name x px,.Name y py] kt pt] (.Tuple [a,b] k2 pt2) pos.line X.env=pure false:=by rfl) :
  PS X (.Assign [.Tuple [.Name x px,.Name y py] kt pt] (.Tuple [a,b] k2 pt2) pos) (tPar i j ta):=by
 intro pins s σ H D I h;rw[exec_Assign_arm];refine xA0 (wpAny_standAt ?_);rw[hs];refine xA0 (xA3 ?_);rw[if_neg #[]];refine xA0 (Tuple_ (thn (ha _ pins s σ H _ I h) λus s1 ⟨vs,H1,I1,r1,q1⟩=>?_));obtain⟨v,w,e1,q1⟩:=q1;subst e1;obtain⟨u1,u2,rfl,rv,rw'⟩:∃u1 u2,us=[u1,u2]/\RelV v u1/\RelV w u2:=by
  cases r1 with
  |cons p q=>
   cases q with
   |cons p' q'=>
    cases q';exact⟨_,_,rfl,p,p'⟩
 refine xAs ?_ (by show 2<=sizeLine;decide);have I2:Inv X pins σ H1 { s1 with heap:=s1.heap.push { cls:=.type "tuple",data:=.seq [u1,u2].toArray } }:=I1.kept (t':=s1.toks) λb o e=>xA2 _ e
 rw[hw];refine xA0 (xA3 ?_);show wpAny (model X.prog X.w) X.A (do rule "assign.swapped-stores";let items <-unpackItems (.ref s1.heap.objs.size) 2 none;assignInOrder [λv=>bindName X.env y v,λv=>bindName X.env x v] items.reverse;pure Flow.next) _ _ _;refine xA0 (xBc (xA0 (unpackItems_tuple (items:=#[u1,u2]) (I.ok.hd hc) (IsTup.new s1.heap _) λh' hx'=>?_)));have I3:=I2.kept (h':=h') (t':=s1.toks) λb o e=>hx' b o (xAy (xAc e)) e
 show wpAny _ _ (assignInOrder [λv=>bindName X.env y v,λv=>bindName X.env x v] [u2,u1] >>= λ_=>pure Flow.next) _ _ _;refine xA0 (assignInOrder_cons (wpAny_bindName (ya1 I3 hN hj (.inl hy) rw' (λs2 I4=>?_) (.inr hy))));refine assignInOrder_cons (wpAny_bindName (ya1 I4 hN hi (.inl hx) rv (λs3 I5=>assignInOrder_nil (xA3 ?_)) (.inr hx)));rw[List.set_comm _ _ (Ne.symm hij)]at I5;exact⟨_,H1,I5,q1⟩
noncomputable def tAug(i:Nat)(te:TE)(ti:TIp):TS:=λD σ H=>∃x,σ[i]?=some (some x)/\te σ H λy H1=>ti x y H1 λz H2=>D.nx (σ.set i (some z)) H2
theorem zbF{i:Nat}{x:Str}{e:Expr}{te:TE}{op:Operator}{ti:TIp}{pos':Pos}(hN:X.N.Nodup)(hi:X.N[i]?=some x)(hx:Loc X.env.scope x)(he:PE X e te)(ho:PIp X op ti)(hf:X.fn x=true\/X.env.scope.names.lookup x=some .local:=by first|exact .inl rfl|exact .inr rfl|assumption) :
  PS X (.AugAssign (.Name x pos') op e pos) (tAug i te ti):=by
 intro pins s σ H D I h;obtain⟨v,e1,h⟩:=h;obtain⟨m,hn,hl⟩:=I.loc;have vis:Vis X.env.scope x:=by rcases hx with k|k;exact .inl k;exact .inr (.inl k)
 obtain⟨u,r,l⟩:=hl i x v hi e1 vis;refine wpAny_AugAssign_Name ?_;have go:wpAny (model X.prog X.w) X.A (eval e X.env) (λw s₂=>wpAny (model X.prog X.w) X.A (inplaceOp op u w) (λr s₃=>wpAny (model X.prog X.w) X.A (storeName X.env x r) (λ_=>SP X pins D .next) X.xe s₃) X.xe s₂) X.xe s:=by
  refine thn (he pins s σ H _ I h) λw s1 ⟨y,H1,I1,r1,q1⟩=>?_
  refine thn (ho pins s1 σ H1 v y u w _ I1 r r1 q1) λz s2 ⟨zv,H2,I2,r2,q2⟩=>?_
  exact ya1 I2 hN hi hx r2 (λs3 I3=>⟨_,H2,I3,q2⟩) hf
 rcases l with⟨hk,hm⟩ |⟨hk,c,hc,hcell⟩
 ·exact wpAny_loadName_local I.ok.kind hk hn hm go
 ·rcases hk with hk|hk
  ·exact wpAny_loadName_cell I.ok.kind hk hc hcell go
  ·rcases hx with k|k
   ·have:X.env.scope.names.lookup x=some .free:=hk;rw[k]at this;cases this
   ·have:X.env.scope.names.lookup x=some .free:=hk;rw[k]at this;cases this
end
section
variable {X:Cx} {pos:Pos}
noncomputable def yhg(c:TT)(tb:TS):TS:=λD σ H=>∃W:Nat->St->Hp->Prop,(∃m,W m σ H)/\∀m σ H,W m σ H->
 c σ H λb H1=>if b=true then ∃N:St->Hp->Prop,(∀σ' H',N σ' H'->∃m',m'<m/\W m' σ' H')/\tb { D with nx:=N,ct:=N,bk:=D.nx } σ H1 else D.nx σ H1
theorem zaO{c:Expr}{body:List Stmt}{tc:TT}{tb:TS}(hp:PassesOwn (model X.prog X.w) X.A X.env X.xe)(hc:PT X c tc)(hb:PSs X body tb):PS X (.While c body [] pos) (yhg tc tb):=by
 intro pins s σ H D I h;obtain⟨W,⟨m0,w0⟩,turn⟩:=h;refine wpAny_While (codeAny_whileLoop (λn s'=>∃σ' H',Inv X pins σ' H' s'/\W n σ' H') ?_ m0 ⟨σ,H,I,w0⟩);rintro n s1 ⟨σ1,H1,I1,w1⟩;refine wpAny_passesOwn hp (thn (hc pins s1 σ1 H1 _ I1 (turn n σ1 H1 w1)) λb s2 ⟨H2,I2,q2⟩=>?_);cases b with
 |true=>
  obtain⟨N,hN,q2⟩:=q2;rw[if_pos rfl];refine wpAny_passesOwn hp (thn (hb pins s2 σ1 H2 _ I2 q2) λf s3 q3=>?_);cases f with
  |next=>
   obtain⟨σ3,H3,I3,n3⟩:=q3;obtain⟨m',hm,w3⟩:=hN σ3 H3 n3;exact⟨m',hm,σ3,H3,I3,w3⟩
  |cont=>
   obtain⟨σ3,H3,I3,n3⟩:=q3;obtain⟨m',hm,w3⟩:=hN σ3 H3 n3;exact⟨m',hm,σ3,H3,I3,w3⟩
  |brk=>exact q3
  |ret v=>exact q3
 |false=>
  rw[if_neg xAj];exact wpAny_execs_nil ⟨σ1,H2,I2,q2⟩
end
structure It where
 go:Nat->Hp->Prop
 yld:Nat->Hp->V->Hp->Prop
 stop:Nat->Hp->Prop
noncomputable def FpOk(X:Cx)(pins:List (Addr×Obj))(H:Hp)(b:Addr):Prop :=
 H b=none/\b≠X.env.locals/\b∉X.fs/\(b∈X.ex\/X.s₀.heap.objs.size<=b)/\(∀x c,X.env.cells.lookup x=some c->c≠b)/\∀p∈X.pn++pins,p.1≠b
theorem Inv.fpOk{X:Cx}{pins:List (Addr×Obj)}{σ:St}{H H':Hp}{s:Shared}{b:Addr}(I:Inv X pins σ H s)(hb:s.heap.objs.size<=b)(hn:H' b=none):FpOk X pins H' b:=by
 refine⟨hn,Nat.ne_of_gt (xAp I.lt hb),I.nofs hb,.inr (xAM I.sz hb),λx c e z=>?_,λp hp z=>?_⟩
 ·obtain⟨v,q⟩:=I.cell x c e;exact absurd (xAp q.lt (by rw[z];exact hb)) (Nat.lt_irrefl _)
 ·exact absurd (xAp (xAc (I.pin p hp).1) (by rw[z];exact hb)) (Nat.lt_irrefl _)
structure Turn(P:Program)(w:World)(K:PySem.W.Frag)(tg:Expr)(J:It)(fp:List Addr)(it:Addr)(tn:Nat->Heap->Prop):Prop where
 mem:it∈fp
 obj:∀i h,tn i h->∀b∈fp,∃o,h.get? b=some o/\∀v,o.data≠.cell v
 keep:∀i h h',tn i h->(∀b∈fp,∀o,h.get? b=some o->h'.get? b=some o)->tn i h'
 item:∀(X:Cx),X.prog=P->X.w=w->X.K=K->X.calm=true->∀(i:Nat) (pins:List (Addr×Obj)) (s:Shared) (σ:St) (H:Hp) (E:Value->Shared->Prop),Inv X pins σ H s->(∀b∈fp,FpOk X pins H b)->tn i s.heap->J.go i H->
  wpAny (model P w) X.A (pyNext (.ref it)) (λr s1=>∃u,r=some u/\
   wpAny (model P w) X.A (letOwnedTupleGo tg (.ref it) u) (λ_ s2=>∃x H',Inv X pins σ H' s2/\RelV x u/\J.yld i H x H'/\tn (i+1) s2.heap/\∀b∈fp,H' b=none) E s1) E s
 done:∀(X:Cx),X.prog=P->X.w=w->X.K=K->X.calm=true->∀(i:Nat) (pins:List (Addr×Obj)) (s:Shared) (σ:St) (H:Hp) (E:Value->Shared->Prop),Inv X pins σ H s->(∀b∈fp,FpOk X pins H b)->tn i s.heap->J.stop i H->
  wpAny (model P w) X.A (pyNext (.ref it)) (λr s1=>r=none/\Inv X pins σ H s1) E s
 self:∀(A:Around) (i:Nat) (s:Shared) (Q:Value->Shared->Prop) (E:Value->Shared->Prop),tn i s.heap->Q (.ref it) s->wpAny (model P w) A (pyIter (.ref it)) Q E s
noncomputable abbrev TI:=St->Hp->(It->Hp->Prop)->Prop
noncomputable def PIE(X:Cx)(pins:List (Addr×Obj))(σ:St)(tg:Expr)(R:It->Hp->Prop)(itv:Value)(s2:Shared):Prop :=
 ∃(it:Addr) (fp:List Addr) (tn:Nat->Heap->Prop) (J:It) (H':Hp),itv = .ref it/\Inv X pins σ H' s2/\Turn X.prog X.w X.K tg J fp it tn/\tn 0 s2.heap/\(∀b∈fp,FpOk X pins H' b)/\R J H'
noncomputable def PI(X:Cx)(tg iter:Expr)(wi:TI):Prop :=
 ∀(pins:List (Addr×Obj)) (s:Shared) (σ:St) (H:Hp) (R:It->Hp->Prop),Inv X pins σ H s->wi σ H R->
  wpAny (model X.prog X.w) X.A (eval iter X.env) (λv s1=>wpAny (model X.prog X.w) X.A (pyIter v) (PIE X pins σ tg R) X.xe s1) X.xe s
theorem zfA{M:Model}{A:Around}{E:Value->Shared->Prop}{s:Shared}{tg:Expr}{it:Addr}{u:Value}{o:Obj}{n:String}{vs:Array Value}{Q:Unit->Shared->Prop}(ho:s.heap.get? it=some o)(hc:o.cls = .type n)(hd:o.data = .fields vs)
  (hn:["enumerate","zip","dict_itemiterator","dict_reverseitemiterator","odict_iterator","itertools.zip_longest","itertools.pairwise"].contains n=false) (hQ:Q Unit.unit s):wpAny M A (letOwnedTupleGo tg (.ref it) u) Q E s:=by
 unfold letOwnedTupleGo;cases tg <;> first
  |exact xA3 hQ
  |(cases u <;> first
    |exact xA3 hQ
    |(refine xA0 (wpAny_load ho ?_)
      rw[hc,hd];show wpAny M A (if (["enumerate","zip","dict_itemiterator","dict_reverseitemiterator","odict_iterator","itertools.zip_longest","itertools.pairwise"].contains n&&vs[0]?==some (rawInt _))=true then _ else _) Q E s;rw[if_neg (by intro h;rw[hn,Bool.false_and]at h;cases h)];exact xA3 hQ))
noncomputable def Itl(K:PySem.W.Frag)(a:Addr):It :=
 ⟨λi H=>∃xs x,SqL K H a xs/\xs[i]?=some x,λi H x H'=>H'=H/\∀xs,SqL K H a xs->xs[i]?=some x,λi H=>∃xs,SqL K H a xs/\xs.length<=i⟩
noncomputable def Itt(K:PySem.W.Frag)(a:Addr):It :=
 ⟨λi H=>∃xs x,SqT K H a xs/\xs[i]?=some x,λi H x H'=>H'=H/\∀xs,SqT K H a xs->xs[i]?=some x,λi H=>∃xs,SqT K H a xs/\xs.length<=i⟩
noncomputable def Itr(lo:Int)(n:Nat):It:=⟨λi _=>i<n,λi H x H'=>H'=H/\x = .int (lo+i),λi _=>n<=i⟩
theorem yf7{P:Program}{w:World}{K:PySem.W.Frag}{tg:Expr}(a it:Addr):Turn P w K tg (Itl K a) [it] it (λi h=>h.IsListIter it a i) where
 mem:=by simp
 obj:=λi h st b hb=>by
  have e:b=it:=by simpa using hb
  subst e;obtain⟨o,e,c,d⟩:=st;exact⟨o,e,λv z=>by rw[d]at z;cases z⟩
 keep:=λi h h' st k=>st.at λo e=>k it (by simp) o e
 item:=by
  intro X hP hw hK hc i pins s σ H E I hf st hg;subst hP hw hK;obtain⟨xs,x,hq,hx⟩:=hg;obtain⟨its,rv,p,hz⟩:=I.list hq;obtain⟨u,hu,ru⟩:=rv.get hx;obtain⟨f0,f1,f2,f3,f4,f5⟩:=hf it (by simp);refine wpAny_pyNext_list_item st p.isList (x:=u) (by simpa using hu) λh' st' sb=>?_
  have I1:Inv X pins σ H { s with heap:=h' }:=I.turned (t':=s.toks) (λb o hb e=>(sb.2 b hb).trans e) f0 f1 f3 f4 f5;obtain⟨o,e,c,d⟩:=id st';exact⟨u,rfl,zfA (s:={ s with heap:=h' }) e c d #[] ⟨x,H,I1,ru,⟨rfl,λys hy=>by rw[I.list_inj hy hq];exact hx⟩,st',λb hb=>(hf b hb).1⟩⟩
 done:=by
  intro X hP hw hK hc i pins s σ H E I hf st hg;subst hP hw hK;obtain⟨xs,hq,hx⟩:=hg;obtain⟨its,rv,p,hz⟩:=I.list hq;obtain⟨f0,f1,f2,f3,f4,f5⟩:=hf it (by simp);have hl:=rv.length;exact wpAny_pyNext_list_end (I.ok.hd hc) st p.isList (by simp;omega) λh' eb=>⟨rfl,I.turned (t':=s.toks) (λb o hb e=>eb b o hb e) f0 f1 f3 f4 f5⟩
 self:=λ_ _ _ _ _ st h=>wpAny_pyIter_listiter st h
theorem zfi{P:Program}{w:World}{K:PySem.W.Frag}{tg:Expr}(a it:Addr):Turn P w K tg (Itt K a) [it] it (λi h=>h.IsTupleIter it a i) where
 mem:=by simp
 obj:=λi h st b hb=>by
  have e:b=it:=by simpa using hb
  subst e;obtain⟨o,e,c,d⟩:=st;exact⟨o,e,λv z=>by rw[d]at z;cases z⟩
 keep:=λi h h' st k=>st.at λo e=>k it (by simp) o e
 item:=by
  intro X hP hw hK hc i pins s σ H E I hf st hg;subst hP hw hK;obtain⟨xs,x,hq,hx⟩:=hg;obtain⟨its,rv,p,hz⟩:=I.tuple hq;obtain⟨u,hu,ru⟩:=rv.get hx;obtain⟨f0,f1,f2,f3,f4,f5⟩:=hf it (by simp);refine wpAny_pyNext_tuple_item st (show s.heap.IsTuple a its.toArray from p) (x:=u) (by simpa using hu) λh' st' sb=>?_
  have I1:Inv X pins σ H { s with heap:=h' }:=I.turned (t':=s.toks) (λb o hb e=>(sb.2 b hb).trans e) f0 f1 f3 f4 f5;obtain⟨o,e,c,d⟩:=id st';exact⟨u,rfl,zfA (s:={ s with heap:=h' }) e c d #[] ⟨x,H,I1,ru,⟨rfl,λys hy=>by rw[I.tuple_inj hy hq];exact hx⟩,st',λb hb=>(hf b hb).1⟩⟩
 done:=by
  intro X hP hw hK hc i pins s σ H E I hf st hg;subst hP hw hK;obtain⟨xs,hq,hx⟩:=hg;obtain⟨its,rv,p,hz⟩:=I.tuple hq;obtain⟨f0,f1,f2,f3,f4,f5⟩:=hf it (by simp);have hl:=rv.length;exact wpAny_pyNext_tuple_end (I.ok.hd hc) st (show s.heap.IsTuple a its.toArray from p) (by simp;omega) λh' eb=>⟨rfl,I.turned (t':=s.toks) (λb o hb e=>eb b o hb e) f0 f1 f3 f4 f5⟩
 self:=λ_ _ _ _ _ st h=>wpAny_pyIter_tupleiter st h
theorem yfo{P:Program}{w:World}{K:PySem.W.Frag}{tg:Expr}(it:Addr)(lo:Int)(n:Nat):Turn P w K tg (Itr lo n) [it] it (λi h=>IsRangeIter h it (lo+(i:Nat)*1) ((n:Int)-(i:Nat)) 1) where
 mem:=by simp
 obj:=λi h st b hb=>by
  have e:b=it:=by simpa using hb
  subst e;exact⟨_,st,λv z=>by
   have z':Data.fields _=Data.cell v:=z;cases z'⟩
 keep:=λi h h' st k=>k it (by simp) _ st
 item:=by
  intro X hP hw hK hc i pins s σ H E I hf st hg;subst hP hw hK;obtain⟨f0,f1,f2,f3,f4,f5⟩:=hf it (by simp);have W:=Walks.range (prog:=X.prog) (w:=X.w) (I.ok.hd hc) it lo 1 n;refine W.item i s _ _ hg st λv h' tk hv st' kk=>?_
  obtain⟨t,rfl⟩:=hv;have I1:Inv X pins σ H { s with heap:=h',toks:=tk }:=I.turned (λb o hb e=>kk b o (by simpa using hb) e) f0 f1 f3 f4 f5;refine⟨_,rfl,zfA (s:={ s with heap:=h',toks:=tk }) (n:="range_iterator") st' rfl rfl #[] ⟨.int (lo+i),H,I1,⟨t,?_⟩,⟨rfl,rfl⟩,st',λb hb=>(hf b hb).1⟩⟩;rw[Int.mul_one]
 done:=by
  intro X hP hw hK hc i pins s σ H E I hf st hg;subst hP hw hK;obtain⟨f0,f1,f2,f3,f4,f5⟩:=hf it (by simp);exact wpAny_pyNext_range_end (I.ok.hd hc) st (by have:n<=i:=hg;omega) λh' eb=>⟨rfl,I.turned (t':=s.toks) (λb o hb e=>eb b o hb e) f0 f1 f3 f4 f5⟩
 self:=λ_ _ _ _ _ st h=>wpAny_pyIter_rangeiter st h
end L2
namespace L2
open PySem PySem.Spec PyProof.Rows
section
variable {X:Cx} {tg:Expr}
noncomputable def yhM(K:PySem.W.Frag)(tl:TE):TI:=λσ H R=>tl σ H λx H1=>∃a,x = .ref a/\(∃xs,SqL K H1 a xs)/\R (Itl K a) H1
noncomputable def iTup(K:PySem.W.Frag)(tl:TE):TI:=λσ H R=>tl σ H λx H1=>∃a,x = .ref a/\(∃xs,SqT K H1 a xs)/\R (Itt K a) H1
theorem ybc{l:Expr}{tl:TE}(hl:PE X l tl):PI X tg l (yhM X.K tl):=by
 intro pins s σ H R I h;refine thn (hl pins s σ H _ I h) λv s1 ⟨x,H1,I1,r1,q1⟩=>?_
 obtain⟨a,e,⟨xs,hq⟩,q⟩:=q1;subst e;cases r1;obtain⟨its,rv,p,hz⟩:=I1.list hq;refine wpAny_pyIter_list p.isList ?_;refine⟨s1.heap.objs.size,[s1.heap.objs.size],_,_,H1,rfl,I1.kept (t':=s1.toks) λb o e=>xA2 _ e,yf7 a _,⟨_,xA6 _ rfl,rfl,rfl⟩,λb hb=>?_,q⟩;have e:b=s1.heap.objs.size:=by simpa using hb
 subst e;exact I1.fpOk (xA4 _) (I1.hok.fresh (xA4 _))
theorem yb9{l:Expr}{tl:TE}(hl:PE X l tl):PI X tg l (iTup X.K tl):=by
 intro pins s σ H R I h;refine thn (hl pins s σ H _ I h) λv s1 ⟨x,H1,I1,r1,q1⟩=>?_
 obtain⟨a,e,⟨xs,hq⟩,q⟩:=q1;subst e;cases r1;obtain⟨its,rv,p,hz⟩:=I1.tuple hq;refine wpAny_pyIter_tuple (show s1.heap.IsTuple a its.toArray from p) ?_;refine⟨s1.heap.objs.size,[s1.heap.objs.size],_,_,H1,rfl,I1.kept (t':=s1.toks) λb o e=>xA2 _ e,zfi a _,⟨_,xA6 _ rfl,rfl,rfl⟩,λb hb=>?_,q⟩;have e:b=s1.heap.objs.size:=by simpa using hb
 subst e;exact I1.fpOk (xA4 _) (I1.hok.fresh (xA4 _))
theorem zeU{pins:List (Addr×Obj)}{σ:St}{H:Hp}{s:Shared}{R:It->Hp->Prop}{E:Value->Shared->Prop}{lo hi:Int}{t u v:Tok}{tk:Nat}(I:Inv X pins σ H s)(h1 : -(2^62)<=lo)(h2:lo<2^62)(h3 : -(2^62)<=hi)(h4:hi<2^62)
  (q:R (Itr lo (hi-lo).toNat) H):wpAny (model X.prog X.w) X.A (pyIter (.ref s.heap.objs.size)) (PIE X pins σ tg R) E { s with heap:=s.heap.push { cls:=.type "range",data:=.fields #[.int lo t,.int hi u,.int 1 v] },toks:=tk }:=by
 refine wpAny_pyIter_range (IsRange.new ..) (small_one h1 h2 h3 h4) ?_;have I1:Inv X pins σ H { s with heap:=s.heap.push { cls:=.type "range",data:=.fields #[.int lo t,.int hi u,.int 1 v] },toks:=tk }:=I.kept λb o e=>xA2 _ e
 refine⟨(s.heap.push { cls:=.type "range",data:=.fields #[.int lo t,.int hi u,.int 1 v] }).objs.size,[(s.heap.push { cls:=.type "range",data:=.fields #[.int lo t,.int hi u,.int 1 v] }).objs.size],_,_,H,rfl,
  I1.kept (t':=tk) λb o e=>xA2 _ e,yfo _ lo (hi-lo).toNat,?_,λb hb=>?_,q⟩
 ·have e1:lo+((0:Nat):Int)*1=lo:=by simp
  have e2:(((hi-lo).toNat:Nat):Int)-((0:Nat):Int)=Builtin.Range.rangeSize lo hi 1:=by rw[rangeSize_one];split <;> omega
  show IsRangeIter _ _ (lo+((0:Nat):Int)*1) ((((hi-lo).toNat:Nat):Int)-((0:Nat):Int)) 1;rw[e1,e2];exact xA6 _ rfl
 ·have e:b=(s.heap.push { cls:=.type "range",data:=.fields #[.int lo t,.int hi u,.int 1 v] }).objs.size:=by simpa using hb
  subst e;exact I1.fpOk (xA4 _) (I1.hok.fresh (xA4 _))
noncomputable def yiF(ta:TA):TI:=λσ H R=>ta σ H λvs H1=>∃j:Int,vs=[.int j]/\-(2^62)<=j/\j<2^62/\R (Itr 0 j.toNat) H1
noncomputable def ziC(ta:TA):TI:=λσ H R=>ta σ H λvs H1=>∃i j:Int,vs=[.int i,.int j]/\(-(2^62)<=i/\i<2^62/\-(2^62)<=j/\j<2^62)/\R (Itr i (j-i).toNat) H1
theorem yaG{a:Expr}{ta:TA}{p pos:Pos}(hg:Gl X "range")(hm:X.mg "range"=none)(ha:PA X [a] ta)(hs:starEach [a] X.env=[(false,eval a X.env)]:=by rfl):PI X tg (.Call (.Name "range" p) [a] [] pos) (yiF ta):=by
 intro pins s σ H R I h;refine Call_ (ybE I hg hm boot_range (xAP (thn (ha pos pins s σ H _ I h) λus s1 ⟨vs,H1,I1,r1,q1⟩=>?_) hs rfl));obtain⟨j,e,q1,q2,q⟩:=q1;subst e;cases r1 with
 |cons r rr=>
  cases rr;obtain⟨t,rfl⟩:=r;exact call_range_1 (zeU I1 () () q1 q2 (by simpa using q))
theorem zca{a b:Expr}{ta:TA}{p pos:Pos}(hg:Gl X "range")(hm:X.mg "range"=none)(ha:PA X [a,b] ta)(hs:starEach [a,b] X.env=[(false,eval a X.env),(false,eval b X.env)]:=by rfl)(hs2:starEach [b] X.env=[(false,eval b X.env)]:=by rfl) :
  PI X tg (.Call (.Name "range" p) [a,b] [] pos) (ziC ta):=by
 intro pins s σ H R I h;refine Call_ (ybE I hg hm boot_range (xAP (thn (ha pos pins s σ H _ I h) λus s1 ⟨vs,H1,I1,r1,q1⟩=>?_) (by rw[hs,hs2]) (by rw[hs2];rfl)));obtain⟨i,j,e,⟨q1,q2,q3,q4⟩,q⟩:=q1;subst e;cases r1 with
 |cons r rr=>
  cases rr with
  |cons r' rr=>
   cases rr;obtain⟨t,rfl⟩:=r;obtain⟨t',rfl⟩:=r';exact call_range_2 (zeU I1 q1 q2 q3 q4 q)
noncomputable def tFor(wi:TI)(g:TG)(tb:TS):TS:=λD σ H=>wi σ H λJ H1=>∃W:Nat->Nat->St->Hp->Prop,(∃m,W 0 m σ H1)/\∀i m σ H,W i m σ H->
 (J.stop i H/\D.nx σ H)\/(J.go i H/\∃N:St->Hp->Prop,(∀σ' H',N σ' H'->∃m',m'<m/\W (i+1) m' σ' H')/\∀x H',J.yld i H x H'->g x σ H' λσ2 H2=>tb { D with nx:=N,ct:=N,bk:=D.nx } σ2 H2)
noncomputable def yct(fp:List Addr)(h:Heap):List (Addr×Obj):=fp.filterMap λb=>(h.get? b).map λo=>(b,o)
theorem zbb{fp:List Addr}{h:Heap}{b:Addr}{o:Obj}(hb:b∈fp)(e:h.get? b=some o):(b,o)∈yct fp h:=List.mem_filterMap.mpr ⟨b,hb,by rw[e];rfl⟩
theorem ydZ{fp:List Addr}{h:Heap}{p:Addr×Obj}(hp:p∈yct fp h):p.1∈fp/\h.get? p.1=some p.2:=by
 obtain⟨b,hb,e⟩:=List.mem_filterMap.mp hp;cases q:h.get? b with
 |none=>rw[q]at e;cases e
 |some o=>
  rw[q]at e;have e':(b,o)=p:=xAw e;subst e';exact⟨hb,q⟩
theorem Inv.pinned{pins:List (Addr×Obj)}{σ:St}{H:Hp}{s:Shared}{fp:List Addr}(I:Inv X pins σ H s)(hf:∀b∈fp,FpOk X pins H b)(ho:∀b∈fp,∃o,s.heap.get? b=some o/\∀v,o.data≠.cell v):Inv X (pins++yct fp s.heap) σ H s :=
 I.pins_of λp hp=>(xAB.mp hp).elim (λz=>I.pin p (xAb _ z)) λz=>by
  obtain⟨hb,e⟩:=ydZ z;obtain⟨f0,f1,f2,_⟩:=hf p.1 hb;obtain⟨o,e',d⟩:=ho p.1 hb;rw[e]at e';cases e';exact⟨e,f0,f1,f2,d⟩
theorem Inv.unpinned{pins pl:List (Addr×Obj)}{σ:St}{H:Hp}{s:Shared}(I:Inv X (pins++pl) σ H s):Inv X pins σ H s:=I.pins_of λp hp=>I.pin p (xAb _ (xAG _ hp))
theorem zaF{iter:Expr}{body:List Stmt}{wi:TI}{g:TG}{tb:TS}{pos:Pos}(hp:PassesOwn (model X.prog X.w) X.A X.env X.xe)(hc:X.calm=true)(hi:PI X tg iter wi)(hg:PG X tg g)(hb:PSs X body tb)
  (hs:∀x,foldedSetIterable iter X.env x=pure x:=by intro _;rfl):PS X (.For tg iter body [] pos) (tFor wi g tb):=by
 intro pins s σ H D I h;refine wpAny_For (thn (hi pins s σ H _ I h) λv s1 h1=>thn h1 λitv s2 h2=>?_) hs;obtain⟨it,fp,tn,J,H2,e,I2,T,st2,f2,W,⟨m0,w0⟩,turn⟩:=h2;subst e;have stat:∀ {H':Hp},(∀b∈fp,H' b=none)->∀b∈fp,FpOk X pins H' b:=λhn b hb=>⟨hn b hb,(f2 b hb).2⟩
 refine codeAny_forLoop_any (λn s'=>∃i σ' H',Inv X pins σ' H' s'/\tn i s'.heap/\(∀b∈fp,H' b=none)/\W i n σ' H') ?_ m0 ⟨0,σ,H2,I2,st2,λb hb=>(f2 b hb).1,w0⟩;rintro n s3 ⟨i,σ3,H3,I3,st3,fr3,w3⟩;rcases turn i n σ3 H3 w3 with⟨stop,qn⟩ |⟨go,N,hN,step⟩
 ·refine wpAny_passesOwn hp (thn (T.done X rfl rfl rfl hc i pins s3 σ3 H3 X.xe I3 (stat fr3) st3 stop) λr s4 ⟨hr,I4⟩=>?_);subst hr;exact wpAny_execs_nil ⟨σ3,H3,I4,qn⟩
 ·refine wpAny_passesOwn hp (thn (T.item X rfl rfl rfl hc i pins s3 σ3 H3 X.xe I3 (stat fr3) st3 go) λr s4 ⟨u,hr,h4⟩=>?_);subst hr;refine wpAny_passesOwn hp (thn h4 λ_ s5 ⟨x,H5,I5,r5,y5,st5,fr5⟩=>?_);have I5':=I5.pinned (stat fr5) (T.obj _ _ st5);refine wpAny_passesOwn hp (thn (hg _ s5 σ3 H5 x u _ I5' r5 (step x H5 y5)) λ_ s6 ⟨σ6,H6,I6,q6⟩=>?_);refine wpAny_passesOwn hp (thn (hb _ s6 σ6 H6 _ I6 q6) λf s7 q7=>?_);have again:∀ {σ7:St} {H7:Hp},Inv X (pins++yct fp s5.heap) σ7 H7 s7->N σ7 H7->∃m,m<n/\∃i σ' H',Inv X pins σ' H' s7/\tn i s7.heap/\(∀b∈fp,H' b=none)/\W i m σ' H':=λ{σ7 H7} I7 n7=>by
   obtain⟨m',hm,w7⟩:=hN σ7 H7 n7;refine⟨m',hm,i+1,σ7,H7,I7.unpinned,T.keep _ _ _ st5 λb hb o e=>(I7.pin (b,o) (xAb _ (xAb _ (zbb hb e)))).1,λb hb=>?_,w7⟩;obtain⟨o,e,d⟩:=T.obj _ _ st5 b hb;exact(I7.pin (b,o) (xAb _ (xAb _ (zbb hb e)))).2.1
  cases f with
  |next=>obtain⟨σ7,H7,I7,n7⟩:=q7;exact again I7 n7
  |cont=>obtain⟨σ7,H7,I7,n7⟩:=q7;exact again I7 n7
  |brk=>obtain⟨σ7,H7,I7,q7⟩:=q7;exact⟨σ7,H7,I7.unpinned,q7⟩
  |ret v=>obtain⟨x7,σ7,H7,I7,r7,q7⟩:=q7;exact⟨x7,σ7,H7,I7.unpinned,r7,q7⟩
end
theorem ye4{K:PySem.W.Frag}{a:Addr}{xs:List V}{g:TG}{tb:TS}{D:Ends}{σ:St}{H:Hp}(Pv:Nat->St->Hp->Prop)(h0:Pv 0 σ H)(hl:∀i σ H,i<=xs.length->Pv i σ H->SqL K H a xs)
  (hs:∀i x σ H,xs[i]?=some x->Pv i σ H->g x σ H λσ2 H2=>tb { D with nx:=Pv (i+1),ct:=Pv (i+1),bk:=D.nx } σ2 H2) (hd:∀σ H,Pv xs.length σ H->D.nx σ H) :
  ∃W:Nat->Nat->St->Hp->Prop,(∃m,W 0 m σ H)/\∀i m σ H,W i m σ H->
   ((Itl K a).stop i H/\D.nx σ H)\/((Itl K a).go i H/\∃N:St->Hp->Prop,(∀σ' H',N σ' H'->∃m',m'<m/\W (i+1) m' σ' H')/\∀x H',(Itl K a).yld i H x H'->g x σ H' λσ2 H2=>tb { D with nx:=N,ct:=N,bk:=D.nx } σ2 H2):=by
 refine⟨λi m σ H=>m=xs.length-i/\i<=xs.length/\Pv i σ H,⟨xs.length,by simp,xB1 _,h0⟩,?_⟩;rintro i m σ H ⟨rfl,hi,p⟩;have q:=hl i σ H hi p;by_cases hlt:i<xs.length
 ·refine .inr ⟨⟨xs,xs[i],q,by simp[hlt]⟩,Pv (i+1),λσ' H' p'=>⟨xs.length-(i+1),(),rfl,hlt,p'⟩,λx H' y=>?_⟩;obtain⟨e,y⟩:=y;subst e;exact hs i x σ _ (y xs q) p
 ·have e:i=xs.length:=by omega
  subst e;exact .inl ⟨⟨xs,q,xA4 _⟩,hd σ H p⟩
theorem zaU{lo:Int}{n:Nat}{g:TG}{tb:TS}{D:Ends}{σ:St}{H:Hp}(Pv:Nat->St->Hp->Prop)(h0:Pv 0 σ H)
  (hs:∀i σ H,i<n->Pv i σ H->g (.int (lo+i)) σ H λσ2 H2=>tb { D with nx:=Pv (i+1),ct:=Pv (i+1),bk:=D.nx } σ2 H2) (hd:∀σ H,Pv n σ H->D.nx σ H) :
  ∃W:Nat->Nat->St->Hp->Prop,(∃m,W 0 m σ H)/\∀i m σ H,W i m σ H->
   ((Itr lo n).stop i H/\D.nx σ H)\/((Itr lo n).go i H/\∃N:St->Hp->Prop,(∀σ' H',N σ' H'->∃m',m'<m/\W (i+1) m' σ' H')/\∀x H',(Itr lo n).yld i H x H'->g x σ H' λσ2 H2=>tb { D with nx:=N,ct:=N,bk:=D.nx } σ2 H2):=by
 refine⟨λi m σ H=>m=n-i/\i<=n/\Pv i σ H,⟨n,by simp,xB1 _,h0⟩,?_⟩;rintro i m σ H ⟨rfl,hi,p⟩;by_cases hlt:i<n
 ·refine .inr ⟨hlt,Pv (i+1),λσ' H' p'=>⟨n-(i+1),(),rfl,hlt,p'⟩,λx H' y=>?_⟩;obtain⟨e,y⟩:=y;subst e y;exact hs i σ _ hlt p
 ·have e:i=n:=by omega
  subst e;exact .inl ⟨xA4 _,hd σ H p⟩
end L2
namespace L2
open PySem PySem.Spec PyProof.Rows
noncomputable abbrev R2:=V->V->Hp->VK->Prop
noncomputable def OpR(X:Cx)(f:Value->Value->Sem Value)(r:R2):Prop :=
 ∀(pins:List (Addr×Obj)) (s:Shared) (σ:St) (H:Hp) (x y:V) (v u:Value) (Q:VK),Inv X pins σ H s->RelV x v->RelV y u->r x y H Q->
  wpAny (model X.prog X.w) X.A (f v u) (EP X pins σ Q) X.xe s
noncomputable def UnR(X:Cx)(f:Value->Sem Value)(r:V->Hp->VK->Prop):Prop :=
 ∀(pins:List (Addr×Obj)) (s:Shared) (σ:St) (H:Hp) (x:V) (v:Value) (Q:VK),Inv X pins σ H s->RelV x v->r x H Q->
  wpAny (model X.prog X.w) X.A (f v) (EP X pins σ Q) X.xe s
noncomputable def yb0(X:Cx)(f:Value)(r:List V->Hp->VK->Prop):Prop :=
 ∀(pins:List (Addr×Obj)) (s:Shared) (σ:St) (H:Hp) (xs:List V) (us:List Value) (Q:VK),Inv X pins σ H s->Vals xs us->r xs H Q->
  wpAny (model X.prog X.w) X.A (call f us) (EP X pins σ Q) X.xe s
noncomputable def tOp(r:R2)(ta tb:TE):TE:=λσ H Q=>ta σ H λx H1=>tb σ H1 λy H2=>r x y H2 Q
noncomputable def tUn(r:V->Hp->VK->Prop)(ta:TE):TE:=λσ H Q=>ta σ H λx H1=>r x H1 Q
noncomputable def rI(C:Int->Int->Prop)(g:Int->Int->V):R2:=λx y H Q=>∃i j,x = .int i/\y = .int j/\C i j/\Q (g i j) H
noncomputable def rI0(g:Int->Int->V):R2:=λx y H Q=>∃i j,x = .int i/\y = .int j/\Q (g i j) H
noncomputable def rU(g:Int->V):V->Hp->VK->Prop:=λx H Q=>∃i,x = .int i/\Q (g i) H
section
variable {X:Cx} {a b c:Expr} {ta tb tc:TE} {pos:Pos}
theorem binT(ha:PE X a ta)(hb:PE X b tb){pins:List (Addr×Obj)}{s:Shared}{σ:St}{H:Hp}{R:V->V->Hp->Prop}(I:Inv X pins σ H s)
  (h:ta σ H λx H1=>tb σ H1 λy H2=>R x y H2) {Q:Value->Shared->Prop} {f:Value->Value->Sem Value}
  (hf:∀v u s2 x y H2,Inv X pins σ H2 s2->RelV x v->RelV y u->R x y H2->wpAny (model X.prog X.w) X.A (f v u) Q X.xe s2) :
  wpAny (model X.prog X.w) X.A (eval a X.env) (λv s₁=>wpAny (model X.prog X.w) X.A (eval b X.env) (λu s₂=>wpAny (model X.prog X.w) X.A (f v u) Q X.xe s₂) X.xe s₁) X.xe s:=by
 refine thn (ha pins s σ H _ I h) λv s1 ⟨x,H1,I1,r1,q1⟩=>?_
 refine thn (hb pins s1 σ H1 _ I1 q1) λu s2 ⟨y,H2,I2,r2,q2⟩=>?_
 exact hf v u s2 x y H2 I2 r1 r2 q2
theorem zag{op:Operator}{r:R2}(ho:OpR X (binaryOp op) r)(ha:PE X a ta)(hb:PE X b tb):PE X (.BinOp a op b pos) (tOp r ta tb):=by
 intro pins s σ H Q I h;exact wpAny_BinOp (binT ha hb I h λv u s2 x y H2 I2 rx ry q=>ho pins s2 σ H2 x y v u Q I2 rx ry q)
theorem yet{op:UnaryOp}{r:V->Hp->VK->Prop}(ho:UnR X (unaryOp op) r)(ha:PE X a ta):PE X (.UnaryOp op a pos) (tUn r ta):=by
 intro pins s σ H Q I h;exact UnaryOp_ (thn (ha pins s σ H _ I h) λv s1 ⟨x,H1,I1,r1,q1⟩=>ho pins s1 σ H1 x v Q I1 r1 q1)
theorem opI{f:Value->Value->Sem Value}{C:Int->Int->Prop}{g:Int->Int->Int}
  (rule:∀(i j:Int) (t u:Tok) (s:Shared) (Q:Value->Shared->Prop) (E:Value->Shared->Prop),C i j->Q (.int (g i j) s.toks) { s with toks:=s.toks+1 }->wpAny (model X.prog X.w) X.A (f (.int i t) (.int j u)) Q E s) :
  OpR X f (rI C λi j=>.int (g i j)):=by
 intro pins s σ H x y v u Q I rx ry h;obtain⟨i,j,rfl,rfl,hc,q⟩:=h;obtain⟨t,rfl⟩:=rx;obtain⟨t',rfl⟩:=ry;exact rule i j t t' s _ _ hc ⟨.int (g i j),H,I.tok _,⟨_,rfl⟩,q⟩
theorem opI0{f:Value->Value->Sem Value}{g:Int->Int->Int}
  (rule:∀(i j:Int) (t u:Tok) (s:Shared) (Q:Value->Shared->Prop) (E:Value->Shared->Prop),Q (.int (g i j) s.toks) { s with toks:=s.toks+1 }->wpAny (model X.prog X.w) X.A (f (.int i t) (.int j u)) Q E s) :
  OpR X f (rI0 λi j=>.int (g i j)):=by
 intro pins s σ H x y v u Q I rx ry h;obtain⟨i,j,rfl,rfl,q⟩:=h;obtain⟨t,rfl⟩:=rx;obtain⟨t',rfl⟩:=ry;exact rule i j t t' s _ _ ⟨.int (g i j),H,I.tok _,⟨_,rfl⟩,q⟩
theorem opB0{f:Value->Value->Sem Value}{g:Int->Int->Bool}
  (rule:∀(i j:Int) (t u:Tok) (s:Shared) (Q:Value->Shared->Prop) (E:Value->Shared->Prop),Q (.bool (g i j)) s->wpAny (model X.prog X.w) X.A (f (.int i t) (.int j u)) Q E s) :
  OpR X f (rI0 λi j=>.bl (g i j)):=by
 intro pins s σ H x y v u Q I rx ry h;obtain⟨i,j,rfl,rfl,q⟩:=h;obtain⟨t,rfl⟩:=rx;obtain⟨t',rfl⟩:=ry;exact rule i j t t' s _ _ ⟨.bl (g i j),H,I,rfl,q⟩
noncomputable def CPow(i j:Int):Prop:=0<=j/\j<=1000000/\i.natAbs<2^64
noncomputable def CMul(i j:Int):Prop:=(-(2^64)<i/\i<2^64)\/(-(2^64)<j/\j<2^64)
theorem CMul.ok{i j:Int}(h:CMul i j):IntMulOk i j:=by
 rcases h with⟨h1,h2⟩ |⟨h1,h2⟩
 ·exact .of_left (intBits_le_64 h1 h2)
 ·exact .of_right (intBits_le_64 h1 h2)
theorem yav:OpR X (binaryOp .Add) (rI0 λi j=>.int (i+j)):=opI0 λ_ _ _ _ _ _ _ q=>add_int q
theorem yaW:OpR X (binaryOp .Sub) (rI0 λi j=>.int (i-j)):=opI0 λ_ _ _ _ _ _ _ q=>sub_int q
theorem yaR:OpR X (binaryOp .Mult) (rI CMul λi j=>.int (i*j)):=opI λ_ _ _ _ _ _ _ hc q=>mul_int q hc.ok
theorem zaC:OpR X (binaryOp .Mod) (rI (λ_ j=>0<j) λi j=>.int (i%j)):=opI λi j _ _ _ _ _ hc q=>by
 have h1:(0:Int)<j:=hc;exact mod_int' () (by rw[Int.fmod_eq_emod_of_nonneg i ()];exact q)
theorem yeU:OpR X (binaryOp .Pow) (rI CPow λi j=>.int (i^j.toNat)):=opI λ_ _ _ _ _ _ _ hc q=>pow_int_small hc.1 hc.2.1 hc.2.2 q
theorem zic:OpR X (binaryOp .BitXor) (rI0 λi j=>.int (Builtin.bitXor i j)):=opI0 λ_ _ _ _ _ _ _ q=>xor_int q
theorem zeJ:OpR X (inplaceOp .Add) (rI0 λi j=>.int (i+j)):=opI0 λ_ _ _ _ _ _ _ q=>iadd_int q
theorem yhX:OpR X (inplaceOp .Sub) (rI0 λi j=>.int (i-j)):=opI0 λ_ _ _ _ _ _ _ q=>isub_int q
theorem yeG:OpR X (inplaceOp .Mult) (rI CMul λi j=>.int (i*j)):=opI λ_ _ _ _ _ _ _ hc q=>imul_int q hc.ok
theorem unI{f:Value->Sem Value}{g:Int->Int}
  (rule:∀(i:Int) (t:Tok) (s:Shared) (Q:Value->Shared->Prop) (E:Value->Shared->Prop),Q (.int (g i) s.toks) { s with toks:=s.toks+1 }->wpAny (model X.prog X.w) X.A (f (.int i t)) Q E s) :
  UnR X f (rU λi=>.int (g i)):=by
 intro pins s σ H x v Q I rx h;obtain⟨i,rfl,q⟩:=h;obtain⟨t,rfl⟩:=rx;exact rule i t s _ _ ⟨.int (g i),H,I.tok _,⟨_,rfl⟩,q⟩
theorem ycX:UnR X (unaryOp .USub) (rU λi=>.int (-i)):=unI λ_ _ _ _ _ q=>neg_int q
end
noncomputable def scal:V->V->Bool
 | .non,.non=>true | .non,.int _=>true | .int _,.non=>true | .non,.bl _=>true | .bl _,.non=>true | .non,.str _=>true | .str _,.non=>true
 | .int _,.int _=>true | .bl _,.bl _=>true | .str _,.str _=>true | .byt _,.byt _=>true
 | .int _,.str _=>true | .str _,.int _=>true | .bl _,.str _=>true | .str _,.bl _=>true
 |_,_=>false
noncomputable def rEq:R2:=λx y H Q=>scal x y=true/\Q (.bl (decide (x=y))) H
noncomputable def rNe:R2:=λx y H Q=>scal x y=true/\Q (.bl (!decide (x=y))) H
theorem zgt{i j:Int}:decide (V.int i=V.int j)=(i==j):=by
 rw[Bool.eq_iff_iff];simp
theorem zhh{i j:Bool}:decide (V.bl i=V.bl j)=(i==j):=by
 rw[Bool.eq_iff_iff];simp
theorem ygn{i j:Str}:decide (V.str i=V.str j)=(i==j):=by
 rw[Bool.eq_iff_iff];simp
theorem zgm{i j:Array UInt8}:decide (V.byt i=V.byt j)=(i.toList==j.toList):=by
 rw[Bool.eq_iff_iff];cases i;cases j;simp
section
variable {X:Cx} {a b c:Expr} {ta tb tc:TE} {pos:Pos}
theorem zaz{pins:List (Addr×Obj)}{σ:St}{H:Hp}{s:Shared}{Q:VK}{k k':Bool}(I:Inv X pins σ H s)(q:Q (.bl k) H)(e:k=k'):EP X pins σ Q (.bool k') s:=by
 subst e;exact⟨.bl k,H,I,rfl,q⟩
theorem za4:OpR X (compareOp .Eq) rEq:=by
 intro pins s σ H x y v u Q I rx ry h;obtain⟨hs,q⟩:=h;cases x with
 |non=>
  cases rx;cases y with
  |non=>cases ry;exact PySem.EqNone.eq_none_none (zaz I q (by simp))
  |bl j=>cases ry;exact PySem.EqNone.eq_none_bool (zaz I q (by simp))
  |int j=>obtain⟨t',rfl⟩:=ry;exact PySem.EqNone.eq_none_int (zaz I q (by simp))
  |str j=>obtain⟨t',rfl⟩:=ry;exact PySem.EqNone.eq_none_str (zaz I q (by simp))
  |_=>exact absurd (show false=true from hs) xAj
 |bl i=>
  cases rx;cases y with
  |non=>cases ry;exact PySem.EqNone.eq_bool_none (zaz I q (by simp))
  |bl j=>cases ry;exact eq_bool (zaz I q zhh)
  |str j=>obtain⟨t',rfl⟩:=ry;exact PySem.EqMixed.eq_bool_str (zaz I q (by simp))
  |_=>exact absurd (show false=true from hs) xAj
 |int i=>
  obtain⟨t,rfl⟩:=rx;cases y with
  |non=>cases ry;exact PySem.EqNone.eq_int_none (zaz I q (by simp))
  |int j=>obtain⟨t',rfl⟩:=ry;exact eq_int (zaz I q zgt)
  |str j=>obtain⟨t',rfl⟩:=ry;exact PySem.EqMixed.eq_int_str (zaz I q (by simp))
  |_=>exact absurd (show false=true from hs) xAj
 |str i=>
  obtain⟨t,rfl⟩:=rx;cases y with
  |non=>cases ry;exact PySem.EqNone.eq_str_none (zaz I q (by simp))
  |bl j=>cases ry;exact PySem.EqMixed.eq_str_bool (zaz I q (by simp))
  |int j=>obtain⟨t',rfl⟩:=ry;exact PySem.EqMixed.eq_str_int (zaz I q (by simp))
  |str j=>obtain⟨t',rfl⟩:=ry;exact eq_str (zaz I q ygn)
  |_=>exact absurd (show false=true from hs) xAj
 |byt i=>
  obtain⟨t,rfl⟩:=rx;cases y with
  |byt j=>obtain⟨t',rfl⟩:=ry;exact PySem.W.eq_bytes (zaz I q zgm)
  |_=>exact absurd (show false=true from hs) xAj
 |_=>cases y <;> exact absurd (show false=true from hs) xAj
theorem ygu:OpR X (compareOp .NotEq) rNe:=by
 intro pins s σ H x y v u Q I rx ry h;obtain⟨hs,q⟩:=h;cases x with
 |non=>
  cases rx;cases y with
  |non=>cases ry;exact PySem.EqNone.ne_none_none (zaz I q (by simp))
  |bl j=>cases ry;exact PySem.EqNone.ne_none_bool (zaz I q (by simp))
  |int j=>obtain⟨t',rfl⟩:=ry;exact PySem.EqNone.ne_none_int (zaz I q (by simp))
  |str j=>obtain⟨t',rfl⟩:=ry;exact PySem.EqNone.ne_none_str (zaz I q (by simp))
  |_=>exact absurd (show false=true from hs) xAj
 |bl i=>
  cases rx;cases y with
  |non=>cases ry;exact PySem.EqNone.ne_bool_none (zaz I q (by simp))
  |bl j=>cases ry;exact ne_bool (zaz I q (congrArg not zhh))
  |str j=>obtain⟨t',rfl⟩:=ry;exact PySem.EqMixed.ne_bool_str (zaz I q (by simp))
  |_=>exact absurd (show false=true from hs) xAj
 |int i=>
  obtain⟨t,rfl⟩:=rx;cases y with
  |non=>cases ry;exact PySem.EqNone.ne_int_none (zaz I q (by simp))
  |int j=>obtain⟨t',rfl⟩:=ry;exact ne_int (zaz I q (congrArg not zgt))
  |str j=>obtain⟨t',rfl⟩:=ry;exact PySem.EqMixed.ne_int_str (zaz I q (by simp))
  |_=>exact absurd (show false=true from hs) xAj
 |str i=>
  obtain⟨t,rfl⟩:=rx;cases y with
  |non=>cases ry;exact PySem.EqNone.ne_str_none (zaz I q (by simp))
  |bl j=>cases ry;exact PySem.EqMixed.ne_str_bool (zaz I q (by simp))
  |int j=>obtain⟨t',rfl⟩:=ry;exact PySem.EqMixed.ne_str_int (zaz I q (by simp))
  |str j=>obtain⟨t',rfl⟩:=ry;exact ne_str (zaz I q (congrArg not ygn))
  |_=>exact absurd (show false=true from hs) xAj
 |byt i=>
  obtain⟨t,rfl⟩:=rx;cases y with
  |byt j=>obtain⟨t',rfl⟩:=ry;exact PySem.W.ne_bytes (zaz I q (congrArg not zgm))
  |_=>exact absurd (show false=true from hs) xAj
 |_=>cases y <;> exact absurd (show false=true from hs) xAj
theorem zhO:OpR X (compareOp .Lt) (rI0 λi j=>.bl (decide (i<j))):=opB0 λ_ _ _ _ _ _ _ q=>lt_int q
theorem ziD:OpR X (compareOp .LtE) (rI0 λi j=>.bl (decide (i<=j))):=opB0 λ_ _ _ _ _ _ _ q=>le_int q
theorem yb3:OpR X (compareOp .Gt) (rI0 λi j=>.bl (decide (j<i))):=opB0 λ_ _ _ _ _ _ _ q=>gt_int q
theorem ziA:OpR X (compareOp .GtE) (rI0 λi j=>.bl (decide (j<=i))):=opB0 λ_ _ _ _ _ _ _ q=>ge_int q
theorem yaj(b:Expr){op:CmpOp}(h:op≠.In:=by decide)(h2:op≠.NotIn:=by decide):behindInMarks op b=false:=by
 have e1:(op==CmpOp.In)=false:=by cases op <;> first|rfl|exact absurd rfl h
 have e2:(op==CmpOp.NotIn)=false:=by cases op <;> first|rfl|exact absurd rfl h2
 cases b <;> simp[behindInMarks,e1,e2]
theorem ybg{op:CmpOp}{r:R2}(ho:OpR X (compareOp op) r)(ha:PE X a ta)(hb:PE X b tb)(hm:behindInMarks op b=false):PE X (.Compare a [op] [b] pos) (tOp r ta tb):=by
 intro pins s σ H Q I h;exact wpAny_Compare1 (binT ha hb I h λv u s2 x y H2 I2 rx ry q=>ho pins s2 σ H2 x y v u Q I2 rx ry q) hm
noncomputable def yiq(t:TE):TT:=λσ H Q=>t σ H λx H'=>∃k,x = .bl k/\Q k H'
theorem zai{op:CmpOp}{r:R2}(ho:OpR X (compareOp op) r)(ha:PE X a ta)(hb:PE X b tb)(hm:behindInMarks op b=false):PT X (.Compare a [op] [b] pos) (yiq (tOp r ta tb)):=by
 intro pins s σ H Q I h;refine wpAny_isTrue_Compare1 (thn (ha pins s σ H _ I h) λv s1 ⟨x,H1,I1,r1,q1⟩=>thn (hb pins s1 σ H1 _ I1 q1) λu s2 ⟨y,H2,I2,r2,q2⟩=>
  thn (ho pins s2 σ H2 x y v u _ I2 r1 r2 q2) λc s3 ⟨z,H3,I3,r3,k,e,q3⟩=>?_) hm
 subst e;cases r3;exact wpAny_truthy_bool ⟨H3,I3,q3⟩
theorem ydf:(sizeLine:Nat)<2^63:=by rw[sizeLine_eq];decide
theorem zcx{x:V}{us:List Value}(r:Vals [x] us):∃u,us=[u]/\RelV x u:=by
 cases r with
 |cons r1 r2=>cases r2;exact⟨_,rfl,r1⟩
theorem zii{x y:V}{us:List Value}(r:Vals [x,y] us):∃u w',us=[u,w']/\RelV x u/\RelV y w':=by
 cases r with
 |cons r1 r2=>
  cases r2 with
  |cons r3 r4=>cases r4;exact⟨_,_,rfl,r1,r3⟩
theorem zeY:yb0 X (.builtin "abs") (λxs H Q=>∃i,xs=[.int i]/\Q (.int (if i<0 then -i else i)) H):=by
 intro pins s σ H xs us Q I r h;obtain⟨i,rfl,q⟩:=h;obtain⟨u,rfl,t,rfl⟩:=zcx r;exact call_abs_int λu tk=>⟨.int (if i<0 then -i else i),H,I.tok _,⟨_,rfl⟩,q⟩
theorem yge(hc:X.calm=true):yb0 X (.builtin "max") (λxs H Q=>∃i j,xs=[.int i,.int j]/\Q (.int (if j>i then j else i)) H):=by
 intro pins s σ H xs us Q I r h;obtain⟨i,j,rfl,q⟩:=h;obtain⟨u,w',rfl,⟨t,rfl⟩,⟨t',rfl⟩⟩:=zii r;refine max_two_ints (I.ok.hd hc) λh' tk k=>⟨_,H,I.kept k,?_,q⟩
 by_cases hj:j>i
 ·rw[if_pos hj,if_pos hj];exact⟨_,rfl⟩
 ·rw[if_neg hj,if_neg hj];exact⟨_,rfl⟩
theorem yd3(hc:X.calm=true):yb0 X (.builtin "min") (λxs H Q=>∃i j,xs=[.int i,.int j]/\Q (.int (if j<i then j else i)) H):=by
 intro pins s σ H xs us Q I r h;obtain⟨i,j,rfl,q⟩:=h;obtain⟨u,w',rfl,⟨t,rfl⟩,⟨t',rfl⟩⟩:=zii r;refine min_two_ints (I.ok.hd hc) λh' tk k=>⟨_,H,I.kept k,?_,q⟩
 by_cases hj:j<i
 ·rw[if_pos hj,if_pos hj];exact⟨_,rfl⟩
 ·rw[if_neg hj,if_neg hj];exact⟨_,rfl⟩
theorem ydQ:yb0 X (.type "int") (λxs H Q=>(∃i,xs=[.int i]/\Q (.int i) H)\/∃k,xs=[.bl k]/\Q (.int (if k then 1 else 0)) H):=by
 intro pins s σ H xs us Q I r h;rcases h with⟨i,rfl,q⟩ |⟨k,rfl,q⟩
 ·obtain⟨u,rfl,t,rfl⟩:=zcx r;exact call_int_int ⟨.int i,H,I,⟨_,rfl⟩,q⟩
 ·obtain⟨u,rfl,r1⟩:=zcx r;cases r1;exact call_int_bool ⟨.int (if k then 1 else 0),H,I.tok _,⟨_,rfl⟩,q⟩
end
end L2
namespace L2
open PySem PySem.Spec PyProof.Rows
structure ObjM(h:Heap)(x dx C:Addr)(mA:Str->Option Value):Prop where
 obj:h.get? x=some (PySem.W.instObj C dx)
 ns:h.Ns1 dx mA
 ne:dx≠x
section
variable {prog:Program} {w:World} {A:Around} {E:Value->Shared->Prop} {s:Shared} {K:PySem.W.Frag} {x dx C f:Addr} {mA:Str->Option Value} {name:Str} {v:Value}
end
theorem RelO.some_of{v:V}{o:Option Value}(r:RelO (some v) o):∃u,o=some u/\RelV v u:=by
 cases o with
 |none=>exact(show False from r).elim
 |some u=>exact⟨u,rfl,r⟩
section
variable {P:Program} {w:World} {H H':Hp} {h h':Heap} {a C dx:Addr} {fs fs':List (Str×V)}
end
structure Cls(K:PySem.W.Frag)(C:Addr):Prop where
 pg:PySem.W.plainGet K C Str.empty=true
 hd:PySem.W.hasDictIn K C=true
 po:PySem.W.plainOver K C=true
 sa:PySem.W.findIn K (.ref C) "__setattr__"=some (some (.builtin "object.__setattr__"))
structure Con(K:PySem.W.Frag)(C:Addr)(f:Str)(v:V)(u:Value):Prop where
 at_:PySem.W.findIn K (.ref C) f=some (some u)
 rel:RelV v u
 get:PySem.W.specialIn K u "__get__"=some none
 cp:PySem.W.copiedNames.contains f=false
structure Meth(K:PySem.W.Frag)(C:Addr)(m:Str)(f:Addr):Prop where
 at_:PySem.W.findIn K (.ref C) m=some (some (.ref f))
 fn:PySem.W.isFn K (.ref f)=true
 kp:PySem.W.keepIn K (.ref f)=true
section
variable {X:Cx} {pins:List (Addr×Obj)} {σ:St} {H:Hp} {s:Shared} {a C dx:Addr} {fs:List (Str×V)} {f:Str} {v:V} {A:Around} {E:Value->Shared->Prop}
end
section
variable {X:Cx} {o e value:Expr} {f:Str} {pos pos' tpos:Pos} {ta tv:TE}
end
section
variable {X:Cx} {pins:List (Addr×Obj)} {σ:St} {H:Hp} {s:Shared} {A:Around} {E:Value->Shared->Prop} {Q:Value->Shared->Prop} {c:Value} {b:Bool}
inductive TyOf (K:PySem.W.Frag) (H:Hp):V->Value->Prop where
 |non:TyOf K H .non (.type "NoneType")
 |bl (x:Bool):TyOf K H (.bl x) (.type "bool")
 |int (i:Int):TyOf K H (.int i) (.type "int")
 |str (x:Str):TyOf K H (.str x) (.type "str")
 |flt (x:UInt64):TyOf K H (.flt x) (.type "float")
 |lst {a:Addr} {xs:List V} (e:H a=some (.lst xs)):TyOf K H (.ref a) (.type "list")
 |frz {a:Addr} {o:Obj} {xs:List V} (e:H a=some (.frz o (.lst xs))):TyOf K H (.ref a) (.type "list")
 |tup {a:Addr} {xs:List V} (e:H a=some (.tup xs)):TyOf K H (.ref a) (.type "tuple")
 |dK {a:Addr} {kvs:List (Key×V)} (e:H a=some (.dK kvs)):TyOf K H (.ref a) (.type "dict")
 |dT {a:Addr} {kvs:List (List Key×V)} (e:H a=some (.dT kvs)):TyOf K H (.ref a) (.type "dict")
 |ins {a C dx:Addr} {fs:List (Str×V)} (e:H a=some (.ins C dx fs)) (cl:Cls K C) (ha:PySem.W.findIn K (.ref C) "__class__"=some (some (.builtin "object.__class__")))
   (hn:PySem.W.specialIn K (.builtin "object.__class__") "__get__"=some (some (.builtin "getset_descriptor.__get__"))) (htk:PySem.W.takesIn K (.builtin "object.__class__")=some true)
   (hm:PySem.W.mroIn K C (.type "object")=some true):TyOf K H (.ref a) (.ref C)
end
end L2
namespace L2
open PySem PySem.Spec PyProof.Rows
structure Room(k:Nat)(A:Around):Prop where
 hd:A.handled=none
 dp:A.depth+3*k+5<recursionLimit
 un:A.units+16*k+200<cLine
 gd:A.guards=some []
theorem Room.mono{j k:Nat}{A:Around}(r:Room k A)(h:j<=k):Room j A:=⟨r.hd,by have:=r.dp;omega,by have:=r.un;omega,r.gd⟩
theorem Room.deeper{k:Nat}{A:Around}(r:Room (k+1) A)(env:Env):Room k (A.deeper env) :=
 ⟨r.hd,by have:=r.dp;show A.depth+1+3*k+5<_;omega,by have:=r.un;show A.units+3+16*k+200<_;omega,r.gd⟩
theorem Room.depth{k:Nat}{A:Around}(r:Room k A):A.depth<recursionLimit:=by have:=r.dp;omega
theorem Room.units{k:Nat}{A:Around}(r:Room k A):A.units+64<cLine:=by have:=r.un;omega
theorem Room.units0{k:Nat}{A:Around}(r:Room k A):A.units<cLine:=by have:=r.un;omega
noncomputable def tNil:TA:=λ_ H Q=>Q [] H
noncomputable def yc9(ta:TE)(tr:TA):TA:=λσ H Q=>ta σ H λx H1=>tr σ H1 λxs H2=>Q (x::xs) H2
section
variable {X:Cx} {e:Expr} {es:List Expr} {te:TE} {t:TA} {pos:Pos}
theorem zab:PA X [] tNil:=λ_ _ _ _ H Q I h=>Calls.spliced_nil ⟨[],H,I,.nil,h⟩
theorem zaa(ha:PE X e te)(hr:PA X es t)(hs:starEach (e::es) X.env=(false,eval e X.env)::starEach es X.env:=by rfl):PA X (e::es) (yc9 te t):=by
 intro pos pins s σ H Q I h;rw[hs];show wpAny _ _ (spliced ((false,eval e X.env)::backTo pos (starEach es X.env))) _ _ s;refine Calls.spliced_cons (thn (ha pins s σ H _ I h) λu s1 ⟨x,H1,I1,r1,q1⟩=>?_);exact thn (hr pos pins s1 σ H1 _ I1 q1) λus s2 ⟨xs,H2,I2,r2,q2⟩=>⟨x::xs,H2,I2,.cons r1 r2,q2⟩
noncomputable def tTup(t:TA):TE:=λσ H Q=>t σ H λxs H1=>xs.length<=sizeLine/\∀p,H1 p=none->Q (.ref p) (upd H1 p (.tup xs))
noncomputable def tLst(t:TA):TE:=λσ H Q=>t σ H λxs H1=>xs.length<=sizeLine/\∀p,H1 p=none->Q (.ref p) (upd H1 p (.lst xs))
theorem zaV{x1}(h:PA X es t):PE X (.Tuple es x1 pos) (tTup t):=by
 intro pins s σ H Q I hq;refine wpAny_Tuple_spliced (thn (h pos pins s σ H _ I hq) λus s1 ⟨xs,H1,I1,r,z,q⟩=>⟨by rw[<-r.length];exact z,?_⟩);have hf:H1 s1.heap.objs.size=none:=I1.hok.fresh (xA4 _);refine⟨.ref s1.heap.objs.size,upd H1 s1.heap.objs.size (.tup xs),I1.laid (t':=s1.toks) (λb u e=>xA2 _ e) (xA4 _) ?_,rfl,q _ hf⟩;exact⟨z,us,r,⟨_,xA6 _ rfl,rfl,_,rfl⟩⟩
theorem yaI(h:PA X es t):PE X (.List es pos) (tLst t):=by
 intro pins s σ H Q I hq;refine wpAny_List_spliced (thn (h pos pins s σ H _ I hq) λus s1 ⟨xs,H1,I1,r,z,q⟩=>⟨by rw[<-r.length];exact z,?_⟩);have hf:H1 s1.heap.objs.size=none:=I1.hok.fresh (xA4 _);refine⟨.ref s1.heap.objs.size,upd H1 s1.heap.objs.size (.lst xs),I1.laid (t':=s1.toks) (λb u e=>xA2 _ e) (xA4 _) ?_,rfl,q _ hf⟩;exact⟨z,us,0,r,xA6 _ rfl⟩
end
noncomputable abbrev Sp:=List V->Hp->VK->XK->Prop
noncomputable abbrev CXT:=List Env->Hp->Shared->XK->Value->Shared->Prop
structure Env0(P:Program)(w:World)(K:PySem.W.Frag)(mg:Str->Option Value)(base:Heap)(A:Around)(outer:List Env)(s:Shared)(H:Hp):Prop where
 frames:A.frames=some outer
 mod:Mod K mg base
 bs:∀b o,base.get? b=some o->s.heap.get? b=some o/\H b=none
 bsz:base.objs.size<=s.heap.objs.size
 funs:s.heap.FunFrames base outer
 frf:∀b∈frs outer,H b=none
 hok:HOk P w H s.heap
 bare:AllBare s.gens
noncomputable def CE(outer:List Env)(P:Program)(w:World)(H:Hp)(s:Shared)(Q:VK)(u:Value)(s':Shared):Prop :=
 ∃v H',s'.os=s.os/\AllBare s'.gens/\Un (frs outer) [] H H' s.heap s'.heap/\HOk P w H' s'.heap/\RelV v u/\Q v H'
noncomputable def CR(CX:CXT)(outer:List Env)(P:Program)(w:World)(H:Hp)(s:Shared)(Q:VK)(E:XK)(r:Result)(s':Shared):Prop :=
 match r with
 | .ok (.ret u)=>CE outer P w H s Q u s'
 | .ok _=>False
 | .error e=>CX outer H s E e s'
structure FnOk(P:Program)(w:World)(K:PySem.W.Frag)(mg:Str->Option Value)(base:Heap)(CX:CXT)(k:Nat)(f:Addr)(fd:FuncData)(ps:List Str)(sp:Sp):Prop where
 len:∀vs H Q E,sp vs H Q E->vs.length=ps.length
 run:∀(A:Around) (outer:List Env) (s:Shared) (H:Hp) (args:Args) (us:List Value) (vs:List V) (Q:VK) (E:XK),Room k A->Env0 P w K mg base A outer s H->BindsTo s fd args (ps.zip us)->Vals vs us->sp vs H Q E->
  codeAny (model P w) A (.call (.ref f) args) (CR CX outer P w H s Q E) s
theorem FnOk.imp{P:Program}{w:World}{K:PySem.W.Frag}{mg:Str->Option Value}{base:Heap}{CX:CXT}{k:Nat}{f:Addr}{fd:FuncData}{ps:List Str}{sp sp':Sp}(F:FnOk P w K mg base CX k f fd ps sp)
  (h:∀vs H Q E,sp' vs H Q E->sp vs H Q E):FnOk P w K mg base CX k f fd ps sp' :=
 ⟨λvs H Q E q=>F.len vs H Q E (h _ _ _ _ q),λA outer s H args us vs Q E hr he hb hv hs=>F.run A outer s H args us vs Q E hr he hb hv (h _ _ _ _ hs)⟩
section
variable {X:Cx} {pins:List (Addr×Obj)} {σ:St} {H:Hp} {s s':Shared}
theorem Inv.env0(I:Inv X pins σ H s):Env0 X.prog X.w X.K X.mg X.base X.A X.stack s H :=
 ⟨I.ok.frames,I.ok.mod,I.bs,xAM I.ok.bsz I.sz,I.stack,I.stkFree,I.hok,I.bare⟩
theorem Inv.after{Q:VK}{u:Value}(I:Inv X pins σ H s)(h:CE X.stack X.prog X.w H s Q u s'):EP X pins σ Q u s':=by
 obtain⟨v,H',os,bare,un,hok,r,q⟩:=h;obtain⟨hh,g,d,t,os'⟩:=s';obtain rfl:os'=s.os:=os;exact⟨v,H',I.call (h':=hh) (g':=g) (d':=d) (t':=t) (ch:=[]) un hok bare (λb z=>absurd z (by simp)),r,q⟩
end
noncomputable def yhW(sp:Sp)(dvs:List V)(E:XK)(t:TA):TE:=λσ H Q=>t σ H λvs H1=>sp (vs++dvs) H1 Q E
noncomputable def zfs(K:PySem.W.Frag)(fd:FuncData)(ps:List Str)(ds:List Value):Prop :=
 ∀(s:Shared) (us:List Value),K.In s.heap->(us++ds).length=ps.length->BindsTo s fd ⟨us,[]⟩ (ps.zip (us++ds))
theorem zfs.all{K:PySem.W.Frag}{fd:FuncData}{ps:List Str}(h:∀us:List Value,us.length=ps.length->bindArgs fd ⟨us,[]⟩=pure (ps.zip us)):zfs K fd ps []:=λs us _ hl=>by
 rw[List.append_nil]at hl ⊢;exact .of_eq (h us hl)
noncomputable def yfZ(CX:CXT)(X:Cx)(E:XK):Prop:=∀(pins:List (Addr×Obj)) (σ:St) (H:Hp) (s:Shared) (e:Value) (s':Shared),Inv X pins σ H s->CX X.stack H s E e s'->X.xe e s'
section
variable {X:Cx} {CX:CXT} {k:Nat} {f C:Addr} {fd:FuncData} {ps:List Str} {sp:Sp} {dvs:List V} {ds:List Value} {E:XK} {x m:Str} {p pos apos:Pos} {e o:Expr} {es:List Expr} {ta:TE} {t:TA}
theorem zhZ{pins:List (Addr×Obj)}{σ:St}{H:Hp}{s:Shared}{Q:VK}{us:List Value}{vs:List V}(F:FnOk X.prog X.w X.K X.mg X.base CX k f fd ps sp)(hr:Room k X.A)(hb:zfs X.K fd ps ds)(hd:Vals dvs ds)(hx:yfZ CX X E)
  (I:Inv X pins σ H s) (r:Vals vs us) (h:sp (vs++dvs) H Q E):wpAny (model X.prog X.w) X.A (call (.ref f) us) (EP X pins σ Q) X.xe s:=by
 have r2:Vals (vs++dvs) (us++ds):=r.append hd;have hl:(us++ds).length=ps.length:=by rw[<-r2.length];exact F.len _ _ _ _ h
 refine wpAny_call (codeAny_mono (F.run X.A X.stack s H ⟨us,[]⟩ (us++ds) (vs++dvs) Q E hr I.env0 (hb s us I.kIn hl) r2 h) λr s' hq=>?_);cases r with
 |error e=>exact hx pins σ H s e s' I hq
 |ok fl=>
  cases fl with
  |ret u=>exact I.after hq
  |next=>exact False.elim hq
  |brk=>exact False.elim hq
  |cont=>exact False.elim hq
theorem yhp(F:FnOk X.prog X.w X.K X.mg X.base CX k f fd ps sp)(hr:Room k X.A)(hg:Gl X x)(hm:X.mg x=some (.ref f))(hk:PySem.W.keepIn X.K (.ref f)=true)(hb:zfs X.K fd ps ds)(hd:Vals dvs ds)(hx:yfZ CX X E)
  (ha:PA X (e::es) t) (hdb:(x==("__debug__":Str))=false:=by decide) (he:starEach (e::es) X.env=(false,eval e X.env)::starEach es X.env:=by rfl) (hpl:(backTo pos (starEach es X.env)).any (·.1)=false:=by rfl) :
  PE X (.Call (.Name x p) (e::es) [] pos) (yhW sp dvs E t):=by
 intro pins s σ H Q I h;refine wpAny_Call_Name_kw (yfY I hg hm ?_ hdb);refine PySem.W.callWith_K (h₀:=X.base) I.ok.mod.kin hk (thn (ha pos pins s σ H _ I h) λus s1 ⟨vs,H1,I1,r,q⟩=>⟨I1.kIn,?_⟩) he hpl;exact zhZ F hr hb hd hx I1 r q
structure Mk(K:PySem.W.Frag)(C f:Addr):Prop where
 makes:PySem.W.makesIn K C=true
 init:PySem.W.findIn K (.ref C) "__init__"=some (some (.ref f))
 fn:PySem.W.isFn K (.ref f)=true
 kp:PySem.W.keepIn K (.ref C)=true
end
section
variable {X:Cx} {CX:CXT} {k:Nat} {f C:Addr} {fd:FuncData} {ps ks:List Str} {sp:Sp} {E:XK} {x m:Str} {p pos apos kpos:Pos} {e o:Expr} {es:List Expr} {kws:List Keyword} {te ta:TE} {t tk:TA} {nm:Option Str}
structure KBinds(K:PySem.W.Frag)(fd:FuncData)(ps ks:List Str)(g:List Value->List Value->List Value)(gV:List V->List V->List V):Prop where
 to:∀(s:Shared) (us ws:List Value),K.In s.heap->(g us ws).length=ps.length->BindsTo s fd ⟨us,ks.zip ws⟩ (ps.zip (g us ws))
 rel:∀ {vs:List V} {us:List Value} {zs:List V} {ws:List Value},Vals vs us->Vals zs ws->Vals (gV vs zs) (g us ws)
variable {g:List Value->List Value->List Value} {gV:List V->List V->List V}
end
structure yah(N P:List Str)(sc:Scope):Prop where
 kind:sc.kind = .function
 co:sc.isCoroutine=false
 gen:sc.isGenerator=false
 nd:N.Nodup
 pre:N.take P.length=P
 par:∀x∈P,sc.names.lookup x=some .local\/sc.names.lookup x=some .cell
 nofree:∀y∈sc.names,y.2≠.free
theorem yd2{kindOf:Str->Option NameKind}{x:Str}:∀ {binds:List (Str×Value)} {m:Str->Option Value},(∀v,(x,v)∉binds)->bindL kindOf binds m x=m x
 | [],_,_=>rfl
 |(n,v)::r,m,h=>by
  unfold bindL;rw[yd2 λw hw=>h w (xAd _ hw)];split
  ·have:x≠n:=by rintro rfl;exact h v xAf
   simp[this]
  ·rfl
theorem zdQ{kindOf:Str->Option NameKind}{x:Str}:∀ {binds:List (Str×Value)} {m:Str->Option Value},(∀v,(x,v)∉binds)->bindC kindOf binds m x=m x
 | [],_,_=>rfl
 |(n,v)::r,m,h=>by
  unfold bindC;rw[zdQ λw hw=>h w (xAd _ hw)];split
  ·rfl
  ·have:x≠n:=by rintro rfl;exact h v xAf
   simp[this]
theorem zea{kindOf:Str->Option NameKind}{x:Str}{v:Value}:∀ {P:List Str} {vs:List Value} {i:Nat} {m:Str->Option Value},P.Nodup->P[i]?=some x->vs[i]?=some v->kindOf x=some .local->
  bindL kindOf (P.zip vs) m x=some v
 | [],_,_,_,_,h,_,_=>by simp at h
 |_::_,[],_,_,_,_,h,_=>by simp at h
 |p::P,w::vs,0,m,nd,h1,h2,hk=>by
  simp at h1 h2;subst h1;subst h2;show bindL kindOf ((p,w)::P.zip vs) m p=_;unfold bindL;rw[yd2 λv hv=>(xBk.mp nd).1 (List.of_mem_zip hv).1,if_pos hk];simp
 |p::P,w::vs,i+1,m,nd,h1,h2,hk=>by
  show bindL kindOf ((p,w)::P.zip vs) m x=_;unfold bindL;exact zea (i:=i) (xBk.mp nd).2 (by simpa using h1) (by simpa using h2) hk
theorem zd1{kindOf:Str->Option NameKind}{x:Str}{v:Value}:∀ {P:List Str} {vs:List Value} {i:Nat} {m:Str->Option Value},P.Nodup->P[i]?=some x->vs[i]?=some v->kindOf x≠some .local->
  bindC kindOf (P.zip vs) m x=some v
 | [],_,_,_,_,h,_,_=>by simp at h
 |_::_,[],_,_,_,_,h,_=>by simp at h
 |p::P,w::vs,0,m,nd,h1,h2,hk=>by
  simp at h1 h2;subst h1;subst h2;show bindC kindOf ((p,w)::P.zip vs) m p=_;unfold bindC;rw[zdQ λv hv=>(xBk.mp nd).1 (List.of_mem_zip hv).1,if_neg hk];simp
 |p::P,w::vs,i+1,m,nd,h1,h2,hk=>by
  show bindC kindOf ((p,w)::P.zip vs) m x=_;unfold bindC;exact zd1 (i:=i) (xBk.mp nd).2 (by simpa using h1) (by simpa using h2) hk
noncomputable def zd5(N:List Str)(vs:List V):St:=vs.map some++List.replicate (N.length-vs.length) none
noncomputable def cxOf(CX:CXT)(P:Program)(w:World)(K:PySem.W.Frag)(mg:Str->Option Value)(base:Heap)(N:List Str)(qual:Str)(scope:Scope)(f:Addr)(cd:Value)(A:Around)(outer:List Env)(s:Shared)(H:Hp)(E:XK):Cx where
 prog:=P
 w:=w
 K:=K
 mg:=mg
 base:=base
 A:=A.deeper (envOfC qual scope s.heap.objs.size f cd)
 N:=N
 s₀:=s
 H₀:=H
 env:=envOfC qual scope s.heap.objs.size f cd
 outer:=outer
 stack:=envOfC qual scope s.heap.objs.size f cd::outer
 ex:=[]
 calm:=true
 fn:=λ_=>true
 pn:=[]
 xe:=λe s'=>wpAny (model P w) (A.deeper (envOfC qual scope s.heap.objs.size f cd)) (leaving (envOfC qual scope s.heap.objs.size f cd) e) (λ_ s''=>CX outer H s E e s'') (λe' s''=>CX outer H s E e' s'') s'
theorem yeX{sc:Scope}{n:Nat}{x:Str}(h:sc.names.lookup x=some .cell):∃c,(cellsFrom n sc.names []).lookup x=some c:=by
 have q:=PySem.W.cellsFrom_some sc.names n [] (.inl h);exact Option.isSome_iff_exists.mp q
theorem zf7{CX:CXT}{P:Program}{w:World}{K:PySem.W.Frag}{mg:Str->Option Value}{base:Heap}{N ps:List Str}{qual:Str}{scope:Scope}{f:Addr}{cd:Value}{A:Around}{outer:List Env}{s s1:Shared}{H:Hp}{E:XK}{us:List Value}{vs:List V}
  (S:yah N ps scope) (hd:A.handled=none) (e0:Env0 P w K mg base A outer s H) (hl:vs.length=ps.length) (r:Vals vs us)
  (x:InCallC s s.heap.objs.size (bindL (envOfC qual scope s.heap.objs.size f cd).kindOf (ps.zip us) λ_=>none) (cellsFrom (s.heap.objs.size+1) scope.names []) (bindC (envOfC qual scope s.heap.objs.size f cd).kindOf (ps.zip us) λ_=>none) s1) :
  Inv (cxOf CX P w K mg base N qual scope f cd A outer s H E) [] (zd5 N vs) H s1:=by
 have hpl:ps.length<=N.length:=by have:=congrArg List.length S.pre;rw[xAH]at this;omega
 obtain⟨h1,tk,rfl,hk⟩:=x.done;have noA:∀b:Addr,b∉(cxOf CX P w K mg base N qual scope f cd A outer s H E).ex:=λb z=>absurd (show b∈([]:List Addr) from z) (by simp)
 refine⟨⟨e0.mod,S.kind,rfl,rfl,xA4 _,λy z c h1 h2=>?_,λy hy=>?_,λy c _ h=>?_,λ_=>hd,Around.frames_deeper e0.frames,.inr ⟨rfl,rfl⟩,λb z=>absurd z (noA b),e0.bs,e0.bsz,λb _ _=>noA b,λb z=>absurd z (noA b),e0.funs,e0.frf⟩,
  rfl,e0.bare,Un.kept hk,⟨_,x.toInCall.ns,λi y v h1 h2 h3=>?_⟩,λy c h=>⟨_,x.cell y c h⟩,e0.hok.fresh (xA4 _),λy c h=>?_,λp hp=>absurd (show p∈([]:List (Addr×Obj)) from hp) (by simp),e0.hok.kept hk,?_⟩
 ·exact name_of_addr x.apart (PySem.mem_of_lookup h1) (PySem.mem_of_lookup h2)
 ·have hy:scope.names.lookup y=some .cell\/scope.names.lookup y=some .free:=hy;rcases hy with hy|hy
  ·exact yeX hy
  ·exact absurd rfl (S.nofree _ (PySem.mem_of_lookup hy))
 ·exact Nat.le_of_lt (x.above y c (PySem.mem_of_lookup h))
 ·have hi:i<vs.length:=by
   unfold zd5 at h2;by_cases hi:i<vs.length
   ·exact hi
   ·rw[List.getElem?_append_right (by simpa using hi)]at h2;rw[List.getElem?_replicate]at h2;split at h2 <;> cases h2
  have ha:vs[i]?=some v:=by
   unfold zd5 at h2;rw[List.getElem?_append_left (by simpa using hi),xA9]at h2;cases e:vs[i]? with
   |none=>rw[e]at h2;cases h2
   |some a=>rw[e]at h2;cases h2;rfl
  obtain⟨u,hu,rv⟩:=r.get ha;have hp:ps[i]?=some y:=by
   rw[<-S.pre,List.getElem?_take_of_lt ()];exact h1
  have ndP:ps.Nodup:=by rw[<-S.pre];exact S.nd.sublist (List.take_sublist _ _)
  refine⟨u,rv,?_⟩;rcases S.par y (xBo hp) with k|k
  ·exact .inl ⟨k,zea ndP hp hu k⟩
  ·obtain⟨c,e⟩:=yeX (n:=s.heap.objs.size+1) k;refine .inr ⟨.inl k,c,e,?_⟩;have q:=x.cell y c e;rw[zd1 ndP hp hu (by show scope.names.lookup y≠_;rw[k];decide)]at q;exact q
 ·exact e0.hok.fresh (Nat.le_of_lt (x.above y c (PySem.mem_of_lookup h)))
 ·unfold zd5;show _=N.length;rw[xAx,xA1,xAq];omega
theorem ziz{CX:CXT}{P:Program}{w:World}{K:PySem.W.Frag}{mg:Str->Option Value}{base:Heap}{k:Nat}{f:Addr}{name qual:Str}{params:Arguments}{body:List Stmt}{scope:Scope}{dV kV doc pm cdv ct oc:Value}{an od:Option Addr}
  {osl:Array (Option Value)} {N ps:List Str} {sp:Sp} (lk:K.lookup f=some ⟨oc,od,.func (PySem.W.fnOf name qual params body scope dV kV doc pm an cdv ct),osl⟩) (hcd:PySem.W.codeIn K cdv qual=true) (S:yah N ps scope)
  (len:∀vs H Q E,sp vs H Q E->vs.length=ps.length)
  (hbody:∀(A:Around) (outer:List Env) (s:Shared) (H:Hp) (vs:List V) (Q:VK) (E:XK),Room k (A.deeper (envOfC qual scope s.heap.objs.size f cdv))->sp vs H Q E->
   ∃t,PSs (cxOf CX P w K mg base N qual scope f cdv A outer s H E) body t/\t { nx:=λ_ H'=>Q .non H',rt:=Q } (zd5 N vs) H) :
  FnOk P w K mg base CX (k+1) f (PySem.W.fnOf name qual params body scope dV kV doc pm an cdv ct) ps sp:=by
 refine⟨len,λA outer s H args us vs Q E hr e0 hb r hsp=>?_⟩;have hl:=len _ _ _ _ hsp;have KX:K.In s.heap:=e0.mod.kin.keeps λb o e=>(e0.bs b o e).1
 have lim:s.heap.NoLimit:=e0.mod.nolimit.keeps λb o e=>(e0.bs b o e).1
 have hkind:∀y∈ps.zip us,scope.names.lookup y.1=some .local\/(scope.names.lookup y.1=some .cell/\((cellsFrom (s.heap.objs.size+1) scope.names []).lookup y.1).isSome=true):=λ⟨n,v⟩ hy=>by
  rcases S.par n (List.of_mem_zip hy).1 with q|q
  ·exact .inl q
  ·exact .inr ⟨q,PySem.W.cellsFrom_some _ _ _ (.inl q)⟩
 refine codeAny_call_function hr.depth (KX _ _ lk) rfl S.co S.gen rfl (PySem.W.codeRec_of KX hcd) (hb _ _ _ _ ?_);refine wpAny_newFunctionEnv_cells S.kind hkind λenv he s1 x=>?_
 subst he;refine⟨lim.keeps x.toInCall.keep,codeAny_func ?_⟩;obtain⟨t,ht,hq⟩:=hbody A outer s H vs Q E (hr.deeper _) hsp;have I:Inv (cxOf CX P w K mg base N qual scope f cdv A outer s H E) [] (zd5 N vs) H s1:=zf7 S hr.hd e0 hl r x;refine xAQ (ht [] s1 (zd5 N vs) H _ I hq) (λfl s' hs=>?_) λe s' hs=>hs
 have fin:∀ {σ':St} {H':Hp} {v:V} {u:Value},Inv (cxOf CX P w K mg base N qual scope f cdv A outer s H E) [] σ' H' s'->RelV v u->Q v H'->CE outer P w H s Q u s' :=
  λ{σ' H' v u} J rv q=>⟨v,H',J.os,J.bare,J.base,J.hok,rv,q⟩
 cases fl with
 |ret u=>
  obtain⟨v,σ',H',J,rv,q⟩:=hs;exact fin J rv q
 |next=>
  obtain⟨σ',H',J,q⟩:=hs;exact fin (v:=V.non) (u:=Value.none) J rfl q
 |brk=>
  obtain⟨_,_,_,q⟩:=hs;exact False.elim q
 |cont=>
  obtain⟨_,_,_,q⟩:=hs;exact False.elim q
end L2
namespace L2
open PySem PySem.Spec PyProof.Rows
section
variable {X:Cx} {x:Str} {p pos:Pos} {e:Expr} {es:List Expr} {t:TA} {id T:String} {r:List V->Hp->VK->Prop}
noncomputable def tCB(r:List V->Hp->VK->Prop)(t:TA):TE:=λσ H Q=>t σ H λvs H1=>r vs H1 Q
theorem zam(hc:yb0 X (.builtin id) r)(hg:Gl X x)(hm:X.mg x=none)(hv:bootBuiltins x=some (.builtin id))(ha:PA X (e::es) t)(hn:x≠"__name__":=by decide)(hdb:(x==("__debug__":Str))=false:=by decide)
  (he:starEach (e::es) X.env=(false,eval e X.env)::starEach es X.env:=by rfl) (hpl:(backTo pos (starEach es X.env)).any (·.1)=false:=by rfl):PE X (.Call (.Name x p) (e::es) [] pos) (tCB r t):=by
 intro pins s σ H Q I h;refine wpAny_Call_Name_kw (ybE I hg hm hv ?_ hn hdb);exact PyProof.Rows.callWith_builtin1 (thn (ha pos pins s σ H _ I h) λus s1 ⟨vs,H1,I1,r1,q1⟩=>hc pins s1 σ H1 vs us Q I1 r1 q1) he hpl
theorem yaq(hc:yb0 X (.type T) r)(hg:Gl X x)(hm:X.mg x=none)(hv:bootBuiltins x=some (.type T))(ha:PA X (e::es) t)(hn:x≠"__name__":=by decide)(hdb:(x==("__debug__":Str))=false:=by decide)
  (he:starEach (e::es) X.env=(false,eval e X.env)::starEach es X.env:=by rfl) (hpl:(backTo pos (starEach es X.env)).any (·.1)=false:=by rfl):PE X (.Call (.Name x p) (e::es) [] pos) (tCB r t):=by
 intro pins s σ H Q I h;refine wpAny_Call_Name_kw (ybE I hg hm hv ?_ hn hdb);exact xAP (thn (ha pos pins s σ H _ I h) λus s1 ⟨vs,H1,I1,r1,q1⟩=>hc pins s1 σ H1 vs us Q I1 r1 q1) he hpl
end
end L2
namespace HT
open PySem PyProof.Rows
section
open PySem.SeqAt
open PySem.AutoSeq1 (wpAny_loadPart')
open PySem.MeetsSeq PySem.MeetsSeq2 PySem.MeetsSeq3
end
section
variable {prog:Program} {w:World} {A:Around} {E:Value->Shared->Prop} {s:Shared}
theorem cat_tup{t b:Addr}{vs ws:List Value}{Q:Value->Shared->Prop}(ht:IsTup s.heap t vs.toArray)(hb:IsTup s.heap b ws.toArray)(hv:vs≠[])
  (h1:ws=[]->Q (.ref t) s) (h2:ws≠[]->Q (.ref s.heap.objs.size) { s with heap:=s.heap.push { cls:=.type "tuple",data:=.seq (vs++ws).toArray } })
  (hsz:vs.length+ws.length<=sizeLine):wpAny (model prog w) A (binaryOp .Add (.ref t) (.ref b)) Q E s:=by
 obtain⟨⟨cls,dd,data,sl⟩,ho,hc,n,hd⟩:=id ht;obtain⟨⟨cls2,dd2,data2,sl2⟩,ho2,hc2,n2,hd2⟩:=id hb;simp only at hc hd hc2 hd2;subst hc hd hc2 hd2;have e:vs.toArray++ws.toArray=(vs++ws).toArray:=by simp
 by_cases hw:ws=[]
 ·exact concat_meets ⟨_,ho,rfl⟩ ⟨_,ho2,rfl⟩ noFill_tuple_add seq_tuple_add PySem.F.slot_tuple_add PySem.F.entry_tuple_add (PySem.F.args_tuple_add_2 _ _)
   (tuple_addW1 t b vs.toArray ws.toArray n n2 dd dd2 sl sl2 (by simpa using hv) (by simp[hw])) ⟨ho,ho2,h1 hw⟩
 ·refine concat_meets ⟨_,ho,rfl⟩ ⟨_,ho2,rfl⟩ noFill_tuple_add seq_tuple_add PySem.F.slot_tuple_add PySem.F.entry_tuple_add (PySem.F.args_tuple_add_2 _ _)
   (tuple_addW2 t b vs.toArray ws.toArray n n2 dd dd2 sl sl2 (by simpa using hv) (by simpa using hw) (by rw[xA5,xA5];exact hsz)) ⟨ho,ho2,?_⟩
  rw[e];exact h2 hw
noncomputable def sIx(n d:Nat):Option Int->Nat
 |none=>d
 |some v=>if v<0 then(v+(n:Int)).toNat else min v.toNat n
theorem sIx_none(n d:Nat):sIx n d none=d:=rfl
theorem sIx_nat(n d k:Nat):sIx n d (some (k:Int))=min k n:=by
 show(if (k:Int)<0 then((k:Int)+(n:Int)).toNat else min (k:Int).toNat n)=min k n;rw[if_neg (),xAm]
theorem yh3(n d:Nat)(hd:d<=n)(o:Option Int):sIx n d o<=n:=by
 cases o with
 |none=>exact hd
 |some v=>
  show(if v<0 then(v+(n:Int)).toNat else min v.toNat n)<=n;by_cases hv:v<0
  ·rw[if_pos hv];omega
  ·rw[if_neg hv];exact Nat.min_le_right _ _
theorem zf2(v:Int)(n d:Nat):(if v<0 then max (v+(n:Int)) 0 else min v (n:Int))=((sIx n d (some v):Nat):Int):=by
 show(if v<0 then max (v+(n:Int)) 0 else min v (n:Int))=(((if v<0 then(v+(n:Int)).toNat else min v.toNat n):Nat):Int)
 by_cases hv:v<0
 ·simp only[if_pos hv];omega
 ·simp only[if_neg hv];omega
theorem zft(lo hi:Option Int)(n:Nat):Builtin.Slice.sliceAdjust lo hi 1 (n:Int)=(((sIx n 0 lo:Nat):Int),((sIx n n hi:Nat):Int)):=by
 have h1:¬ ((1:Int)<0):=by omega
 unfold Builtin.Slice.sliceAdjust;simp only[h1,if_false];refine Prod.ext ?_ ?_
 ·cases lo with
  |none=>rfl
  |some v=>exact zf2 v n 0
 ·cases hi with
  |none=>rfl
  |some v=>exact zf2 v n n
theorem yfi(i j:Nat):Builtin.Slice.slicePlaces (i:Int) (j:Int) 1=j-i:=by
 unfold Builtin.Slice.slicePlaces;have h1:(1:Int)>0:=by omega
 simp only[h1,if_true,Int.ediv_one];split <;> omega
theorem zcp{v:Value}{o:Option Int}{Q:Option Int->Shared->Prop}(p:IsPart v o)(h:Q o s):wpAny (model prog w) A (Builtin.Slice.slicePartIndex v) Q E s:=by
 cases p with
 |none=>exact slicePart_none h
 |int i t=>exact slicePart_int h
theorem ybF{sl:Addr}{vl vu:Value}{lo hi:Option Int}{n:Nat}{Q:Int×Int×Nat->Shared->Prop}(hs:s.heap.IsSliceOf sl vl vu .none)(pl:IsPart vl lo)(pu:IsPart vu hi)
  (h:Q (((sIx n 0 lo:Nat):Int),1,sIx n n hi-sIx n 0 lo) s):wpAny (model prog w) A (Builtin.Slice.sliceApplied (.ref sl) (pure (n:Int))) Q E s:=by
 obtain⟨os,hos,hcs,hds⟩:=id hs;unfold Builtin.Slice.sliceApplied Builtin.Slice.sliceFields;refine xA0 (xA0 (xAU hos hds (x:=vl) rfl (xA0 (xAU hos hds (x:=vu) rfl (xA0 (xAU hos hds (x:=.none) rfl (xA3 ?_)))))));refine xA0 (slicePart_none ?_);show wpAny _ _ (if ((1:Int)==0)=true then _ else _) _ _ s;rw[if_neg #[]];refine xA0 (zcp pl (xA0 (zcp pu (xA0 (xA3 ?_)))));show wpAny _ _ (match Builtin.Slice.sliceAdjust lo hi 1 (n:Int) with|(lo,hi)=>pure (lo,(1:Int),Builtin.Slice.slicePlaces lo hi 1)) _ _ s;rw[zft lo hi n];show wpAny _ _ (pure (((sIx n 0 lo:Nat):Int),(1:Int),Builtin.Slice.slicePlaces ((sIx n 0 lo:Nat):Int) ((sIx n n hi:Nat):Int) 1)) _ _ s;rw[yfi];exact xA3 h
theorem ygv(xs:Array Value)(i k:Nat):((List.range k).filterMap λ(m:Nat)=>xs[((i:Int)+(m:Int)*1).toNat]?).toArray=((xs.toList.drop i).take k).toArray:=by
 have e:(λ(m:Nat)=>xs[((i:Int)+(m:Int)*1).toNat]?)=λm=>xs[i+m]?:=by
  funext m
  have:((i:Int)+(m:Int)*1).toNat=i+m:=by omega
  rw[this]
 rw[e];have:=pick_run xs i k;rw[List.filterMap_map]at this;have e2:((λx=>xs[x]?) ∘ λx=>i+x)=λm=>xs[i+m]?:=rfl
 rw[e2]at this;rw[this]
theorem getItem_tuple_cut{t sl:Addr}{items:Array Value}{vl vu:Value}{lo hi:Option Int}{Q:Value->Shared->Prop}(ht:IsTup s.heap t items)(hs:s.heap.IsSliceOf sl vl vu .none)(pl:IsPart vl lo)(pu:IsPart vu hi)
  (hw:¬ (sIx items.size 0 lo=0/\sIx items.size items.size hi=items.size))
  (h:Q (.ref s.heap.objs.size) { s with heap:=s.heap.push { cls:=.type "tuple",data:=.seq ((items.toList.drop (sIx items.size 0 lo)).take (sIx items.size items.size hi-sIx items.size 0 lo)).toArray } })
  (hsz:items.size<=sizeLine):wpAny (model prog w) A (getItem (.ref t) (.ref sl)) Q E s:=by
 have htake:sizeOk (.seq ((items.toList.drop (sIx items.size 0 lo)).take (sIx items.size items.size hi-sIx items.size 0 lo)).toArray):=by
  show((items.toList.drop (sIx items.size 0 lo)).take (sIx items.size items.size hi-sIx items.size 0 lo)).toArray.size<=sizeLine;rw[xA5,xAH,List.length_drop,xAl];omega
 have hj:sIx items.size items.size hi<=items.size:=yh3 _ _ (xA4 _) hi;obtain⟨os,hos,hcs,hds⟩:=id hs;have hTs:s.TypeIs (.ref sl) "slice":=⟨os,hos,hcs⟩
 unfold getItem
 try with_reducible refine xB9 ?_
 first|refine xA0 (xA3 ?_)|skip
 refine xA0 (wpAny_sequenceKey ht.typeIs #[] ?_);refine xA0 (xAA (name:=Str.ofString "__getitem__") ht.typeIs xBi
  (xAF xBi ht.typeIs entry_tuple_getitem ?_ (args_tuple_getitem _ _)))
 show wpAny _ _ (Builtin.Tuple.tupleItemsOf (.ref t) >>= _) _ _ s;refine xA0 (tupleItemsOf_ ht ?_);refine xA0 (wpAny_typeOf hTs ?_);rw[if_pos #[]];refine xA0 (ybF hs pl pu ?_);have hno:¬ ((((sIx items.size 0 lo:Nat):Int)==0&&(1:Int)==1&&(sIx items.size items.size hi-sIx items.size 0 lo)==items.size)=true):=by
  intro q;rw[xAv,xAv]at q;have q1:((sIx items.size 0 lo:Nat):Int)=0:=eq_of_beq q.1.1;have q2:sIx items.size items.size hi-sIx items.size 0 lo=items.size:=eq_of_beq q.2;exact hw ⟨(),()⟩
 show wpAny _ _ (if (((sIx items.size 0 lo:Nat):Int)==0&&(1:Int)==1&&(sIx items.size items.size hi-sIx items.size 0 lo)==items.size)=true then _ else _) _ _ s;rw[if_neg hno,ygv]
 first
  |exact xA0 (m:=Builtin.Tuple.tupleExact _) (xAs (xA3 ⟨_,rfl,xA3 h⟩) htake)
  |exact xA0 (m:=Builtin.Tuple.tupleExact _) (xAs (xA0 (xA3 (xA3 ⟨_,rfl,xA3 h⟩))) htake)
  |exact xA0 (xA0 (m:=Builtin.Tuple.tupleExact _) (xAs (xA3 (xA3 ⟨_,rfl,xA3 h⟩)) htake))
  |exact xA0 (xA0 (m:=Builtin.Tuple.tupleExact _) (xAs (xA3 ⟨_,rfl,xA3 h⟩) htake))
end
end HT
namespace L2
open PySem PySem.Spec PyProof.Rows
noncomputable abbrev TO:=St->Hp->(Option Int->Hp->Prop)->Prop
noncomputable def PO(X:Cx)(e:Option Expr)(t:TO):Prop :=
 ∀(pins:List (Addr×Obj)) (s:Shared) (σ:St) (H:Hp) (Q:Option Int->Hp->Prop),Inv X pins σ H s->t σ H Q->
  wpAny (model X.prog X.w) X.A (evalPart e X.env) (λu s'=>∃o H',Inv X pins σ H' s'/\IsPart u o/\Q o H') X.xe s
noncomputable def zgb:TO:=λ_ H Q=>Q none H
noncomputable def yiD(t:TE):TO:=λσ H Q=>t σ H λx H1=>∃i,x = .int i/\Q (some i) H1
section
variable {X:Cx} {e:Expr} {te:TE} {lo hi:Option Expr} {tl th:TO} {pos p2:Pos}
theorem zch:PO X none zgb:=by
 intro pins s σ H Q I h;rw[evalPart_none];exact xA3 ⟨none,H,I,.none,h⟩
theorem zck(h:PE X e te):PO X (some e) (yiD te):=by
 intro pins s σ H Q I hw;rw[evalPart_some];refine thn (h pins s σ H _ I hw) λu s1 ⟨x,H1,I1,r1,q1⟩=>?_
 obtain⟨i,rfl,q⟩:=q1;obtain⟨t,rfl⟩:=r1;exact⟨some i,H1,I1,.int i t,q⟩
noncomputable def SlR(X:Cx)(r:V->Option Int->Option Int->Hp->VK->Prop):Prop :=
 ∀(pins:List (Addr×Obj)) (s:Shared) (σ:St) (H:Hp) (x:V) (v vl vu:Value) (lo hi:Option Int) (sl:Addr) (Q:VK),Inv X pins σ H s->RelV x v->s.heap.IsSliceOf sl vl vu .none->IsPart vl lo->IsPart vu hi->r x lo hi H Q->
  ∃T id,typeLookup (.type T) "__getitem__"=pure (some (.builtin id))/\s.TypeIs v T/\wpAny (model X.prog X.w) X.A (getItem v (.ref sl)) (EP X pins σ Q) X.xe s
theorem SlR.or{r r':V->Option Int->Option Int->Hp->VK->Prop}(h:SlR X r)(h':SlR X r'):SlR X (λx lo hi H Q=>r x lo hi H Q\/r' x lo hi H Q):=by
 intro pins s σ H x v vl vu lo hi sl Q I rx hs pl pu q;rcases q with q|q
 ·exact h pins s σ H x v vl vu lo hi sl Q I rx hs pl pu q
 ·exact h' pins s σ H x v vl vu lo hi sl Q I rx hs pl pu q
noncomputable def tSl(r:V->Option Int->Option Int->Hp->VK->Prop)(te:TE)(tl th:TO):TE:=λσ H Q=>te σ H λx H1=>tl σ H1 λl H2=>th σ H2 λu H3=>r x l u H3 Q
theorem zbT{r:V->Option Int->Option Int->Hp->VK->Prop}(hr:SlR X r)(he:PE X e te)(hl:PO X lo tl)(hu:PO X hi th):PE X (.Subscript e (.Slice lo hi none p2) pos) (tSl r te tl th):=by
 intro pins s σ H Q I h;refine Subscript_ (thn (he pins s σ H _ I h) λv s1 ⟨x,H1,I1,r1,q1⟩=>?_);refine wpAny_Slice (thn (hl pins s1 σ H1 _ I1 q1) λvl s2 ⟨l,H2,I2,pl,q2⟩=>thn (hu pins s2 σ H2 _ I2 q2) λvu s3 ⟨u,H3,I3,pu,q3⟩=>?_);rw[evalPart_none];refine xA3 ?_;have I4:Inv X pins σ H3 { s3 with heap:=s3.heap.push { cls:=.type "slice",data:=.fields #[vl,vu,.none] } }:=I3.kept (t':=s3.toks) λb ob q=>xA2 _ q
 obtain⟨T,id,hT,ht,hg⟩:=hr pins { s3 with heap:=s3.heap.push { cls:=.type "slice",data:=.fields #[vl,vu,.none] } } σ H3 x v vl vu l u s3.heap.objs.size Q I4 r1 (Heap.IsSliceOf.new ..) pl pu q3;show wpAny (model X.prog X.w) X.A (subscriptTail e (.Slice lo hi none p2) v (.ref s3.heap.objs.size)) (EP X pins σ Q) X.xe { s3 with heap:=s3.heap.push { cls:=.type "slice",data:=.fields #[vl,vu,.none] } };exact tail_any (ops:=[.ref s3.heap.objs.size,v]) ht hT hg (by with_unfolding_all rfl)
noncomputable def cutV(xs:List V)(lo hi:Option Int):List V:=(xs.drop (HT.sIx xs.length 0 lo)).take (HT.sIx xs.length xs.length hi-HT.sIx xs.length 0 lo)
theorem zc6(xs:List V)(lo hi:Option Int):(cutV xs lo hi).length<=xs.length:=by
 unfold cutV;rw[xAH,List.length_drop];omega
noncomputable def rSlT(K:PySem.W.Frag):V->Option Int->Option Int->Hp->VK->Prop:=λx lo hi H Q=>∃a xs,x = .ref a/\SqT K H a xs/\
 ¬ (HT.sIx xs.length 0 lo=0/\HT.sIx xs.length xs.length hi=xs.length)/\∀p,H p=none->Q (.ref p) (upd H p (.tup (cutV xs lo hi)))
theorem yh1:SlR X (rSlT X.K):=by
 intro pins s σ H x v vl vu lo hi sl Q I rx hs pl pu h;obtain⟨a,xs,rfl,hx,hw,q⟩:=h;cases rx;obtain⟨its,r,ht,hz⟩:=I.tuple hx;have hlen:its.toArray.size=xs.length:=by rw[xA5];exact r.length.symm
 refine⟨"tuple",_,PyProof.Rows.slot_tuple_getitem.lookup,ht.typeIs,?_⟩;refine HT.getItem_tuple_cut ht hs pl pu (by rw[hlen];exact hw) ?_ (by rw[hlen];exact hz);rw[hlen];refine⟨.ref s.heap.objs.size,_,I.laid (t':=s.toks) (o:=.tup (cutV xs lo hi)) (λb ob q=>xA2 _ q) (xA4 _) ?_,rfl,q _ (I.hok.fresh (xA4 _))⟩;exact⟨xAM (zc6 xs lo hi) hz,_,(r.drop (HT.sIx xs.length 0 lo)).take (HT.sIx xs.length xs.length hi-HT.sIx xs.length 0 lo),IsTup.new _ _⟩
noncomputable def zis(K:PySem.W.Frag):R2:=λx y H Q=>∃a b xs ys,x = .ref a/\y = .ref b/\SqT K H a xs/\SqT K H b ys/\xs≠[]/\xs.length+ys.length<=sizeLine/\
 (ys=[]->Q (.ref a) H)/\(ys≠[]->∀p,H p=none->Q (.ref p) (upd H p (.tup (xs++ys))))
theorem Vals.nil_iff{xs:List V}{us:List Value}(r:Vals xs us):us=[]↔xs=[]:=by
 cases r with
 |nil=>simp
 |cons _ _=>simp
theorem zhX:OpR X (binaryOp .Add) (zis X.K):=by
 intro pins s σ H x y v u Q I rx ry h;obtain⟨a,b,xs,ys,rfl,rfl,ha,hb,hx,hz,q1,q2⟩:=h;cases rx;cases ry;obtain⟨its,r1,p1,_⟩:=I.tuple ha;obtain⟨its2,r2,p2,_⟩:=I.tuple hb;refine HT.cat_tup p1 p2 (λz=>hx (r1.nil_iff.mp z)) (λz=>⟨.ref a,H,I,rfl,q1 (r2.nil_iff.mp z)⟩) (λz=>?_) (by rw[<-r1.length,<-r2.length];exact hz);refine⟨.ref s.heap.objs.size,_,I.laid (t':=s.toks) (o:=.tup (xs++ys)) (λb ob q=>xA2 _ q) (xA4 _) ?_,rfl,q2 (λw=>z (r2.nil_iff.mpr w)) _ (I.hok.fresh (xA4 _))⟩;exact⟨by rw[xAx];exact hz,_,r1.append r2,IsTup.new _ _⟩
end
end L2
namespace L2
open PySem PySem.Spec PyProof.Rows
noncomputable def ixN(n:Nat)(i:Int):Option Nat:=if 0<=i then(if i<n then some i.toNat else none) else if -(n:Int)<=i then some (i+n).toNat else none
noncomputable def atI{α:Type}(xs:List α)(i:Int):Option α:=(ixN xs.length i).bind λj=>xs[j]?
theorem zew{n:Nat}{i:Int}{j:Nat}(h:ixN n i=some j):seqIndex? i n=some j/\j<n/\-(n:Int)<=i/\i<n:=by
 unfold ixN at h;by_cases h0:0<=i
 ·rw[if_pos h0]at h;by_cases h1:i<n
  ·rw[if_pos h1]at h;have e:i.toNat=j:=xAw h;exact⟨by rw[seqIndex_of h0 h1,e],(),(),h1⟩
  ·rw[if_neg h1]at h;cases h
 ·rw[if_neg h0]at h;by_cases h1 : -(n:Int)<=i
  ·rw[if_pos h1]at h;have e:(i+n).toNat=j:=xAw h;exact⟨by rw[seqIndex_neg () h1,e],(),h1,()⟩
  ·rw[if_neg h1]at h;cases h
theorem ygb{α:Type}{xs:List α}{i:Int}{v:α}(h:atI xs i=some v):∃j,seqIndex? i xs.length=some j/\xs[j]?=some v/\j<xs.length/\-(xs.length:Int)<=i/\i<xs.length:=by
 unfold atI at h;cases e:ixN xs.length i with
 |none=>rw[e]at h;cases h
 |some j=>
  rw[e]at h;obtain⟨h1,h2,h3,h4⟩:=zew e;exact⟨j,h1,h,h2,h3,h4⟩
theorem yaZ{α:Type}{xs:List α}{j:Nat}{v:α}(h:xs[j]?=some v):atI xs (j:Int)=some v:=by
 have hj:j<xs.length:=(xAo.mp h).1;have e:ixN xs.length (j:Int)=some j:=by
  unfold ixN;rw[if_pos (),if_pos ()];simp
 unfold atI;rw[e];exact h
noncomputable def yhr(b:Expr):Prop:=∀o i,subscripted b false o i=operate [o,i] (getItem o i)
noncomputable def IxR(X:Cx)(r:R2):Prop :=
 ∀(value slice:Expr) (pins:List (Addr×Obj)) (s:Shared) (σ:St) (H:Hp) (x y:V) (v u:Value) (Q:VK),Inv X pins σ H s->RelV x v->RelV y u->r x y H Q->
  subscripted slice false v u=operate [v,u] (getItem v u)->wpAny (model X.prog X.w) X.A (subscriptTail value slice v u) (EP X pins σ Q) X.xe s
noncomputable def MtR(X:Cx)(id:String)(r:V->List V->Hp->VK->Prop):Prop :=
 ∀(pins:List (Addr×Obj)) (s:Shared) (σ:St) (H:Hp) (x:V) (xs:List V) (v:Value) (us:List Value) (Q:VK),Inv X pins σ H s->RelV x v->Vals xs us->r x xs H Q->
  wpAny (model X.prog X.w) X.A (call (.builtin id) (v::us)) (EP X pins σ Q) X.xe s
section
variable {X:Cx} {a b:Expr} {ta tb:TE} {pos:Pos}
theorem zao{r:R2}(hr:IxR X r)(ha:PE X a ta)(hb:PE X b tb)(hs:yhr b):PE X (.Subscript a b pos) (tOp r ta tb):=by
 intro pins s σ H Q I h;exact Subscript_ (binT ha hb I h λv u s2 x y H2 I2 rx ry q=>hr a b pins s2 σ H2 x y v u Q I2 rx ry q (hs _ _))
noncomputable def rIxL(K:PySem.W.Frag):R2:=λx y H Q=>∃p xs i v,x = .ref p/\y = .int i/\SqL K H p xs/\atI xs i=some v/\Q v H
noncomputable def rIxT(K:PySem.W.Frag):R2:=λx y H Q=>∃p xs i v,x = .ref p/\y = .int i/\SqT K H p xs/\atI xs i=some v/\Q v H
theorem yan:IxR X (rIxL X.K):=by
 intro value slice pins s σ H x y v u Q I rx ry h hs;obtain⟨p,xs,i,z,rfl,rfl,hq,he,q⟩:=h;cases rx;obtain⟨t,rfl⟩:=ry;obtain⟨its,r,pl,hz⟩:=I.list hq;obtain⟨j,h1,h2,h3,h4,h5⟩:=ygb he;obtain⟨w,ew,rw'⟩:=r.get h2;have hl:=r.length;have hn:=ydf;have fin:EP X pins σ Q w s:=⟨z,H,I,rw',q⟩
 by_cases h0:0<=i
 ·have hj:i.toNat=j:=by
   rw[seqIndex_of h0 h5]at h1;exact xAw h1
  exact item_listR pl.isList h0 () (by rw[hj];simpa using ew) fin hs
 ·have hj:(i+(its.toArray.size:Int)).toNat=j:=by
   rw[seqIndex_neg () h4]at h1;rw[xA5,<-hl];exact xAw h1
  exact subscriptTail_builtinR (x:=w) pl.isList.typeIs slot_list_getitem.lookup
   (wpAny_getItem_list_neg (Q:=λr s'=>r=w/\EP X pins σ Q r s') pl.isList () (by rw[xA5] <;> omega) () (by rw[hj];simpa using ew) ⟨rfl,fin⟩) hs
theorem zax:IxR X (rIxT X.K):=by
 intro value slice pins s σ H x y v u Q I rx ry h hs;obtain⟨p,xs,i,z,rfl,rfl,hq,he,q⟩:=h;cases rx;obtain⟨t,rfl⟩:=ry;obtain⟨its,r,pl,hz⟩:=I.tuple hq;obtain⟨j,h1,h2,h3,h4,h5⟩:=ygb he;obtain⟨w,ew,rw'⟩:=r.get h2;have hl:=r.length;have hn:=ydf;have fin:EP X pins σ Q w s:=⟨z,H,I,rw',q⟩
 exact subscriptTail_builtinR (x:=w) pl.typeIs slot_tuple_getitem.lookup
  (getItem_tuple (j:=j) (Q:=λr s'=>r=w/\EP X pins σ Q r s') pl () () (by rw[xA5,<-hl];exact h1) (by simpa using ew) ⟨rfl,fin⟩) hs
theorem yft(its:List Value)(n j:Nat)(u:Value):Obj.mapSeq (·.setIfInBounds j u) { cls:=.type "list",data:=.seq its.toArray n }={ cls:=.type "list",data:=.seq (its.set j u).toArray n }:=by
 simp[Obj.mapSeq]
theorem Inv.lst{pins:List (Addr×Obj)}{σ:St}{H:Hp}{s:Shared}{p:Addr}{xs:List V}(I:Inv X pins σ H s)(h:H p=some (.lst xs)) :
  ∃(its:List Value) (n:Nat),Vals xs its/\s.heap.get? p=some { cls:=.type "list",data:=.seq its.toArray n }/\xs.length<=sizeLine:=by
 obtain⟨z,its,n,r,e⟩:=I.hok p _ h;exact⟨its,n,r,e,z⟩
theorem Inv.lstUpd{pins:List (Addr×Obj)}{σ:St}{H:Hp}{s:Shared}{p:Addr}{xs ys:List V}{its its':List Value}{n n':Nat}{f:Obj->Obj}(I:Inv X pins σ H s)(h:H p=some (.lst xs))
  (ho:s.heap.get? p=some { cls:=.type "list",data:=.seq its.toArray n }) (hf:f { cls:=.type "list",data:=.seq its.toArray n }={ cls:=.type "list",data:=.seq its'.toArray n' }) (r:Vals ys its') (hz:ys.length<=sizeLine) (t:Nat) :
  Inv X pins σ (upd H p (.lst ys)) { s with heap:=s.heap.update p f,toks:=t }:=by
 have e:(s.heap.update p f).get? p=some { cls:=.type "list",data:=.seq its'.toArray n' }:=by
  rw[xAY f ho (by rw[hf] <;> rfl),hf]
 refine I.write (x:=p) (e:=p) (by rw[h];trivial) (.inl rfl) (λb u hb q=>(xAK _ _ (Ne.symm hb)).trans q) ⟨_,e⟩ ?_;exact⟨hz,its',n',r,e⟩
noncomputable def yiC:V->V->V->Hp->(Hp->Prop)->Prop:=λo i v H Q=>∃p xs k j,o = .ref p/\i = .int k/\H p=some (.lst xs)/\ixN xs.length k=some j/\Q (upd H p (.lst (xs.set j v)))
theorem ybm:PSet X yiC:=by
 intro pins s σ H o i v ov iv u Q I ro ri rv h;obtain⟨p,xs,k,j,rfl,rfl,hp,hj,q⟩:=h;cases ro;obtain⟨t,rfl⟩:=ri;obtain⟨its,n,r,ho,hz⟩:=I.lst hp;obtain⟨h1,h2,h3,h4⟩:=zew hj;have hl:=r.length;have hn:=ydf;have I':Inv X pins σ (upd H p (.lst (xs.set j v))) { s with heap:=s.heap.update p (Obj.mapSeq (·.setIfInBounds j u)) } :=
  I.lstUpd hp ho (yft its n j u) (r.set rv j) (by rw[List.length_set];exact hz) s.toks
 by_cases h0:0<=k
 ·have hk:k.toNat=j:=by
   rw[seqIndex_of h0 h4]at h1;exact xAw h1
  exact PySem.W.ki_setAt ho h0 () (by rw[xA5,<-hl];exact h4) (by rw[hk];exact⟨_,I',q⟩)
 ·have hk:(k+(its.toArray.size:Int)).toNat=j:=by
   rw[seqIndex_neg () h3]at h1;rw[xA5,<-hl];exact xAw h1
  exact PySem.W.ki_setBack ho () (by rw[xA5,<-hl];exact h3) () (by rw[hk];exact⟨_,I',q⟩)
theorem zej(lo hi:Option Int)(n:Nat):(sliceBounds lo hi none n).1=((HT.sIx n 0 lo:Nat):Int)/\(sliceBounds lo hi none n).2.1=((HT.sIx n n hi:Nat):Int)/\(sliceBounds lo hi none n).2.2=1:=by
 refine⟨?_,?_,rfl⟩
 ·cases lo with
  |none=>simp[sliceBounds,HT.sIx]
  |some i=>
   simp only[sliceBounds,HT.sIx,Option.getD_none,show(1:Int)>0 by decide,if_true];by_cases h:i<0
   ·simp only[h,if_true] <;> omega
   ·simp only[h,if_false] <;> omega
 ·cases hi with
  |none=>simp[sliceBounds,HT.sIx]
  |some i=>
   simp only[sliceBounds,HT.sIx,Option.getD_none,show(1:Int)>0 by decide,if_true];by_cases h:i<0
   ·simp only[h,if_true] <;> omega
   ·simp only[h,if_false] <;> omega
theorem ydv(its:List Value)(lo hi:Option Int):slicePick its.toArray lo hi none=((its.drop (HT.sIx its.length 0 lo)).take (HT.sIx its.length its.length hi-HT.sIx its.length 0 lo)).toArray:=by
 obtain⟨h1,h2,h3⟩:=zej lo hi its.toArray.size;unfold slicePick;rw[h1,h2,h3];simp only[sliceRange_one,pick_run,xA5] <;> rfl
noncomputable def rSlL(K:PySem.W.Frag):V->Option Int->Option Int->Hp->VK->Prop:=λx lo hi H Q=>∃a xs,x = .ref a/\SqL K H a xs/\∀p,H p=none->Q (.ref p) (upd H p (.lst (cutV xs lo hi)))
theorem yeI:SlR X (rSlL X.K):=by
 intro pins s σ H x v vl vu lo hi sl Q I rx hs pl pu h;obtain⟨a,xs,rfl,hx,q⟩:=h;cases rx;obtain⟨its,r,ht,hz⟩:=I.list hx;have hlen:=r.length;refine⟨"list",_,slot_list_getitem.lookup,ht.isList.typeIs,?_⟩;refine wpAny_getItem_list_slice ht.isList hs pl pu .none (by simp) ?_ (by rw[xA5] <;> omega);rw[ydv,<-hlen];refine⟨.ref s.heap.objs.size,_,I.laid (t':=s.toks) (o:=.lst (cutV xs lo hi)) (λb ob q=>xA2 _ q) (xA4 _) ?_,rfl,q _ (I.hok.fresh (xA4 _))⟩;exact⟨xAM (zc6 xs lo hi) hz,_,0,(r.drop (HT.sIx xs.length 0 lo)).take (HT.sIx xs.length xs.length hi-HT.sIx xs.length 0 lo),xA6 _ rfl⟩
noncomputable def ydt:V->Bool
 | .non=>true
 | .bl _=>true
 | .int _=>true
 | .str _=>true
 |_=>false
noncomputable def eqV:V->V->Bool
 | .non,.non=>true
 | .bl a,.bl b=>a==b
 | .bl a,.int b=>(if a then 1 else 0)==b
 | .int a,.bl b=>a==(if b then 1 else 0)
 | .int a,.int b=>a==b
 | .str a,.str b=>a==b
 |_,_=>false
theorem zh5{A:Around}{s:Shared}{y x:V}{u v:Value}(ry:RelV y u)(rx:RelV x v)(fy:ydt y=true)(fx:ydt x=true):SeqAt.EqAt A s u v (eqV y x):=by
 cases y with
 |non=>
  cases ry;cases x with
  |non=>cases rx;exact SeqAt.EqAt.same _
  |bl b=>cases rx;exact SeqAt.EqAt.none_bool b
  |int b=>obtain⟨t,rfl⟩:=rx;exact SeqAt.EqAt.none_int b t
  |str b=>obtain⟨t,rfl⟩:=rx;exact SeqAt.EqAt.none_str b t
  |_=>exact absurd (show false=true from fx) xAj
 |bl a=>
  cases ry;cases x with
  |non=>cases rx;exact SeqAt.EqAt.bool_none a
  |bl b=>cases rx;exact SeqAt.EqAt.bool_bool a b
  |int b=>obtain⟨t,rfl⟩:=rx;exact SeqAt.EqAt.bool_int a b t
  |str b=>obtain⟨t,rfl⟩:=rx;exact SeqAt.EqAt.bool_str a b t
  |_=>exact absurd (show false=true from fx) xAj
 |int a=>
  obtain⟨t',rfl⟩:=ry;cases x with
  |non=>cases rx;exact SeqAt.EqAt.int_none a t'
  |bl b=>cases rx;exact SeqAt.EqAt.int_bool a t' b
  |int b=>obtain⟨t,rfl⟩:=rx;exact SeqAt.EqAt.int_int a t' b t
  |str b=>obtain⟨t,rfl⟩:=rx;exact SeqAt.EqAt.int_str a t' b t
  |_=>exact absurd (show false=true from fx) xAj
 |str a=>
  obtain⟨t',rfl⟩:=ry;cases x with
  |non=>cases rx;exact SeqAt.EqAt.str_none a t'
  |bl b=>cases rx;exact SeqAt.EqAt.str_bool a t' b
  |int b=>obtain⟨t,rfl⟩:=rx;exact SeqAt.EqAt.str_int a t' b t
  |str b=>obtain⟨t,rfl⟩:=rx;exact SeqAt.EqAt.str_str a t' b t
  |_=>exact absurd (show false=true from fx) xAj
 |_=>exact absurd (show false=true from fy) xAj
noncomputable def eqU(x:V)(u:Value):Bool:=match u with
 | .none=>eqV .non x
 | .bool b=>eqV (.bl b) x
 | .int i _=>eqV (.int i) x
 | .str z _=>eqV (.str z) x
 |_=>false
theorem zhb{x y:V}{u:Value}(r:RelV y u)(f:ydt y=true):eqU x u=eqV y x:=by
 cases y with
 |non=>cases r;rfl
 |bl b=>cases r;rfl
 |int i=>obtain⟨t,rfl⟩:=r;rfl
 |str z=>obtain⟨t,rfl⟩:=r;rfl
 |_=>exact absurd (show false=true from f) xAj
theorem zc5{x:V}:∀ {xs:List V} {us:List Value},Vals xs us->xs.all ydt=true->us.any (eqU x)=xs.any λy=>eqV y x
 |_,_,.nil,_=>rfl
 |y::xs,u::us,.cons r t,f=>by
  rw[List.all_cons,xAv]at f;rw[List.any_cons,List.any_cons,zhb r f.1,zc5 t f.2]
theorem zb7{A:Around}{s:Shared}{x:V}{v:Value}(rx:RelV x v)(fx:ydt x=true):∀ {xs:List V} {us:List Value},Vals xs us->xs.all ydt=true->∀u∈us,SeqAt.EqAt A s u v (eqU x u)
 |_,_,.nil,_=>λu hu=>by cases hu
 |y::xs,u::us,.cons r t,f=>λu' hu=>by
  rw[List.all_cons,xAv]at f;rcases xAa.mp hu with rfl|hu
  ·rw[zhb r f.1];exact zh5 r rx f.1 fx
  ·exact zb7 rx fx t f.2 u' hu
noncomputable def inV(x:V)(xs:List V):Bool:=xs.any λy=>eqV y x
noncomputable def rIn(K:PySem.W.Frag)(neg:Bool):R2:=λx y H Q=>∃p xs,y = .ref p/\(SqL K H p xs\/SqT K H p xs)/\ydt x=true/\xs.all ydt=true/\Q (.bl (if neg then !inV x xs else inV x xs)) H
theorem zf5:OpR X (compareOp .In) (rIn X.K false):=by
 intro pins s σ H x y v u Q I rx ry h;obtain⟨p,xs,rfl,hq,fx,fs,q⟩:=h;cases ry;rcases hq with hq|hq
 ·obtain⟨its,r,pl,hz⟩:=I.list hq;refine SeqAt.in_listAt (eqU x) pl.isList (λw hw=>zb7 rx fx r fs w (by simpa using hw)) ⟨.bl _,H,I,rfl,?_⟩;rw[show its.toArray.any (eqU x)=its.any (eqU x) by simp,zc5 r fs];exact q
 ·obtain⟨its,r,pl,hz⟩:=I.tuple hq;refine SeqAt.in_tupleAt (eqU x) pl (λw hw=>zb7 rx fx r fs w (by simpa using hw)) ⟨.bl _,H,I,rfl,?_⟩;rw[show its.toArray.any (eqU x)=its.any (eqU x) by simp,zc5 r fs];exact q
theorem zei:OpR X (compareOp .NotIn) (rIn X.K true):=by
 intro pins s σ H x y v u Q I rx ry h;obtain⟨p,xs,rfl,hq,fx,fs,q⟩:=h;cases ry;rcases hq with hq|hq
 ·obtain⟨its,r,pl,hz⟩:=I.list hq;refine SeqAt.notIn_listAt (eqU x) pl.isList (λw hw=>zb7 rx fx r fs w (by simpa using hw)) ⟨.bl _,H,I,rfl,?_⟩;rw[show its.toArray.any (eqU x)=its.any (eqU x) by simp,zc5 r fs];exact q
 ·obtain⟨its,r,pl,hz⟩:=I.tuple hq;refine SeqAt.notIn_tupleAt (eqU x) pl (λw hw=>zb7 rx fx r fs w (by simpa using hw)) ⟨.bl _,H,I,rfl,?_⟩;rw[show its.toArray.any (eqU x)=its.any (eqU x) by simp,zc5 r fs];exact q
theorem zak:yb0 X (.builtin "len") (λxs H Q=>∃p ys,xs=[.ref p]/\(SqL X.K H p ys\/SqT X.K H p ys)/\Q (.int ys.length) H):=by
 intro pins s σ H xs us Q I r h;obtain⟨p,ys,rfl,hq,q⟩:=h;obtain⟨u,rfl,rx⟩:=zcx r;cases rx;have hn:=ydf;rcases hq with hq|hq
 ·obtain⟨its,r',pl,hz⟩:=I.list hq;have hlen:=r'.length;exact Calls.call_len_list pl.isList (by simp only[xA5] <;> omega) ⟨.int ys.length,H,I.tok _,⟨s.toks+1,by rw[xA5,hlen]⟩,q⟩
 ·obtain⟨its,r',pl,hz⟩:=I.tuple hq;have hlen:=r'.length;exact len_tuple pl (by simp only[xA5] <;> omega) ⟨.int ys.length,H,I.tok _,⟨s.toks+1,by rw[xA5,hlen]⟩,q⟩
theorem ybK:yb0 X (.type "list") (λxs H Q=>∃p ys,xs=[.ref p]/\(SqL X.K H p ys\/SqT X.K H p ys)/\∀l,H l=none->Q (.ref l) (upd H l (.lst ys))):=by
 intro pins s σ H xs us Q I r h;obtain⟨p,ys,rfl,hq,q⟩:=h;obtain⟨u,rfl,rx⟩:=zcx r;cases rx;have fin:∀(its:List Value),Vals ys its->ys.length<=sizeLine->∀(h':Heap) (c':Nat),(∀b o',s.heap.get? b=some o'->h'.get? b=some o')->
   h'.get? s.heap.objs.size=some { cls:=.type "list",dict:=none,data:=.seq its.toArray c',slots:=(List.toArray []) }->EP X pins σ Q (.ref s.heap.objs.size) { s with heap:=h' }:=λits r' hz h' c' kp e=>
  ⟨.ref s.heap.objs.size,_,I.laid (t':=s.toks) kp (xA4 _) (show zbh X.prog X.w _ h' _ (.lst ys) from⟨hz,its,c',r',e⟩),rfl,q _ (I.hok.fresh (xA4 _))⟩
 rcases hq with hq|hq
 ·obtain⟨its,r',pl,hz⟩:=I.list hq;have hlen:=r'.length;obtain⟨o,ho,hc,n,hd⟩:=pl.isList;exact call_list_seq p (.inl rfl) ho hc hd (λh' c' kp e=>fin its r' hz h' c' kp e) (by simp only[xA5] <;> omega)
 ·obtain⟨its,r',pl,hz⟩:=I.tuple hq;have hlen:=r'.length;obtain⟨o,ho,hc,n,hd⟩:=pl;exact call_list_seq p (.inr rfl) ho hc hd (λh' c' kp e=>fin its r' hz h' c' kp e) (by simp only[xA5] <;> omega)
theorem yap:yb0 X (.type "tuple") (λxs H Q=>∃p ys,xs=[.ref p]/\((SqL X.K H p ys/\∀l,H l=none->Q (.ref l) (upd H l (.tup ys)))\/(SqT X.K H p ys/\Q (.ref p) H))):=by
 intro pins s σ H xs us Q I r h;obtain⟨p,ys,rfl,h⟩:=h;obtain⟨u,rfl,rx⟩:=zcx r;cases rx;rcases h with⟨hq,q⟩ |⟨hq,q⟩
 ·obtain⟨its,r',pl,hz⟩:=I.list hq;have hlen:=r'.length;refine call_tuple_list pl.isList (λh' kp=>?_) (by simp only[xA5] <;> omega);have I1:Inv X pins σ H { s with heap:=h' }:=I.kept (t':=s.toks) kp;have I2:Inv X pins σ (upd H h'.objs.size (.tup ys)) { s with heap:=h'.push { cls:=.type "tuple",data:=.seq its.toArray } } :=
   I1.laid (t':=s.toks) (λb o e=>xA2 _ e) (xA4 _) (show zbh X.prog X.w _ _ _ (.tup ys) from⟨hz,its,r',IsTup.new _ _⟩)
  exact⟨.ref h'.objs.size,_,I2,rfl,q _ (I1.hok.fresh (xA4 _))⟩
 ·obtain⟨its,r',pl,hz⟩:=I.tuple hq;exact call_tuple_same pl ⟨.ref p,H,I,rfl,q⟩
noncomputable def tyV(K:PySem.W.Frag)(T:String)(x:V)(H:Hp):Prop:=match x with
 | .str _=>T = "str"
 | .int _=>T = "int"
 | .ref p=>(T = "list"/\∃xs,SqL K H p xs)\/(T = "tuple"/\∃o,K.lookup p=some o/\o.cls = .type "tuple"/\o.dict=none)\/
   (T = "dict"/\((∃kvs,H p=some (.dK kvs))\/∃kvs,H p=some (.dT kvs)))\/(T = "set"/\∃S n,H p=some (.set S n))
 |_=>False
theorem zif{pins:List (Addr×Obj)}{σ:St}{H:Hp}{s:Shared}{T:String}{x:V}{v:Value}(I:Inv X pins σ H s)(r:RelV x v)(ty:tyV X.K T x H) :
  s.TypeIs v T/\∀a,v = .ref a->∃ob,s.heap.get? a=some ob/\ob.dict=none:=by
 cases x with
 |str z=>
  obtain⟨t,rfl⟩:=r;cases (show T = "str" from ty);exact⟨typeIs_str s z t,λ_ e=>nomatch e⟩
 |int i=>
  obtain⟨t,rfl⟩:=r;cases (show T = "int" from ty);exact⟨typeIs_int s i t,λ_ e=>nomatch e⟩
 |ref p=>
  cases r;rcases ty with⟨rfl,xs,hq⟩ |⟨rfl,o,hk,hc,hd⟩ |⟨rfl,hk⟩ |⟨rfl,S,n,hk⟩
  ·obtain⟨its,_,pl,_⟩:=I.list hq;refine⟨pl.isList.typeIs,λa e=>?_⟩;cases e;obtain⟨o,n,e,c,hd,_⟩:=pl;exact⟨o,e,hd⟩
  ·refine⟨⟨o,I.kIn p o hk,hc⟩,λa e=>?_⟩;cases e;exact⟨o,I.kIn _ o hk,hd⟩
  ·have z:∃o,s.heap.get? p=some o/\o.ExactDict:=by
    rcases hk with⟨kvs,hk⟩ |⟨kvs,hk⟩
    ·obtain⟨_,_,_,_,o,_,_,e,ex,_⟩:=I.hok p _ hk;exact⟨o,e,ex⟩
    ·obtain⟨_,_,_,_,o,_,_,e,ex,_⟩:=I.hok p _ hk;exact⟨o,e,ex⟩
   obtain⟨o,e,ex⟩:=z;refine⟨⟨o,e,ex.1⟩,λa e2=>?_⟩;cases e2;exact⟨o,e,ex.2.1⟩
  ·obtain⟨o,_,_,_,e,ex,_⟩:=I.hok p _ hk;refine⟨⟨o,e,ex.1⟩,λa e2=>?_⟩;cases e2;exact⟨o,e,ex.2.1⟩
 |_=>exact False.elim ty
noncomputable def tBM(K:PySem.W.Frag)(T:String)(r:V->List V->Hp->VK->Prop)(to:TE)(t:TA):TE:=λσ H Q=>to σ H λx H1=>tyV K T x H1/\t σ H1 λxs H2=>r x xs H2 Q
variable {o e:Expr} {es:List Expr} {to:TE} {t:TA} {name:Str} {apos cpos:Pos} {T id:String} {r:V->List V->Hp->VK->Prop}
theorem ydV(pa:PlainAttrs T)(slot:Slot T name id)(hty:typeOf (.builtin id)=pure (.type "method_descriptor"))(hm:MtR X id r)(ho:PE X o to)(ha:PA X (e::es) t)
  (hbase:attributeBase o name X.env (eval o X.env)=eval o X.env:=by rfl)
  (hfew:((backTo cpos (starEach (e::es) X.env)).all (λx=>!x.1)&&(backToKw cpos (keywordEach [] X.env)).all (λx=>x.1.isSome)
   && decide ((e::es).length+([]:List Keyword).length+(if ([]:List Keyword).isEmpty then 0 else 1)<30))=true:=by rfl)
  (hline:(apos.endLine==cpos.line)=true:=by rfl) (hs:starEach (e::es) X.env=(false,eval e X.env)::starEach es X.env:=by rfl) (hplain:(backTo cpos (starEach es X.env)).any (·.1)=false:=by rfl) :
  PE X (.Call (.Attribute o name apos) (e::es) [] cpos) (tBM X.K T r to t):=by
 intro pins s σ H Q I h;refine wpAny_Call_method_late hbase hfew hline rfl (thn (ho pins s σ H _ I h) λv s1 ⟨x,H1,I1,r1,ty,q1⟩=>?_);obtain⟨h1,h2⟩:=zif I1 r1 ty;refine⟨T,id,pa,slot,hty,h1,h2,?_⟩;have hA:=ha cpos pins s1 σ H1 _ I1 q1;rw[hs]at hA ⊢;refine Calls.callWith_builtin (by show(false||(backTo cpos (starEach es X.env)).any (·.1))=false;rw[hplain] <;> rfl) (Calls.evalArgs_plain ?_);exact thn hA λus s2 ⟨vs,H2,I2,r2,q2⟩=>hm pins s2 σ H2 x vs v us Q I2 r1 r2 q2
end
end L2
namespace L2
open PySem PySem.Spec PyProof.Rows
noncomputable def MtM(X:Cx)(id:String)(r:V->List V->Hp->VK->Prop):Prop :=
 ∀(pins:List (Addr×Obj)) (s:Shared) (σ:St) (H:Hp) (x:V) (xs:List V) (v:Value) (us:List Value) (Q:VK),Inv X pins σ H s->RelV x v->Vals xs us->r x xs H Q->
  wpAny (model X.prog X.w) X.A (call (.builtin id) (v::us)) (EP X pins σ Q) X.xe s
theorem Vals.one:∀ {x:V} {us:List Value},Vals [x] us->∃u,us=[u]/\RelV x u
 |_,_,.cons r .nil=>⟨_,rfl,r⟩
theorem Vals.eraseIdx:∀ {xs:List V} {us:List Value} (i:Nat),Vals xs us->Vals (xs.eraseIdx i) (us.eraseIdx i)
 |_,_,_,.nil=>.nil
 |_,_,0,.cons _ t=>t
 |_,_,i+1,.cons r t=>.cons r (Vals.eraseIdx i t)
theorem Vals.reverse{xs:List V}{us:List Value}(h:Vals xs us):Vals xs.reverse us.reverse:=by
 induction h with
 |nil=>exact .nil
 |cons r t ih=>rw[List.reverse_cons,List.reverse_cons];exact Vals.append ih (.cons r .nil)
theorem Vals.rep{xs:List V}{us:List Value}(h:Vals xs us):∀k:Nat,Vals (List.replicate k xs).flatten (List.replicate k us).flatten
 |0=>.nil
 |k+1=>by
  rw[xBb,xBb,List.flatten_cons,List.flatten_cons];exact Vals.append h (Vals.rep h k)
theorem zef{α:Type}:∀(l:List α) (i:Nat),(l.eraseIdx i).length<=l.length
 | [],_=>xA4 _
 |_::_,0=>Nat.le_succ _
 |_::r,i+1=>Nat.succ_le_succ (zef r i)
theorem ycI(its:List Value):∀(k:Nat) (acc:List Value),
  List.foldl (λx1 x2=>x1++x2) acc.toArray (List.replicate k its.toArray)=(acc++(List.replicate k its).flatten).toArray
 |0,acc=>by simp
 |k+1,acc=>by
  have e:acc.toArray++its.toArray=(acc++its).toArray:=by simp
  have e2:(acc++its)++(List.replicate k its).flatten=acc++(List.replicate (k+1) its).flatten:=by
   rw[xBb,List.flatten_cons,List.append_assoc]
  rw[<-e2,<-ycI its k (acc++its),<-e,xBb,List.foldl_cons]
section
variable {X:Cx} {pins:List (Addr×Obj)} {σ:St} {H:Hp} {s:Shared} {l b:Addr} {xs ys zs:List V}
theorem Inv.lset{its its':List Value}{n:Nat}{f:Array Value->Array Value}{t':Nat}(I:Inv X pins σ H s)(hH:H l=some (.lst xs))
  (e:s.heap.get? l=some { cls:=.type "list",data:=.seq its.toArray n }) (hf:f its.toArray=its'.toArray) (hv:Vals ys its') (hz:ys.length<=sizeLine) :
  Inv X pins σ (upd H l (.lst ys)) { s with heap:=s.heap.update l (Obj.mapSeq f),toks:=t' }:=by
 have q:=PySem.IsL.update e f;rw[hf]at q;refine I.write (x:=l) (e:=l) (by rw[hH];exact trivial) (.inl rfl) (λb' u hb hu=>(xAK s.heap (Obj.mapSeq f) (Ne.symm hb)).trans hu) ⟨_,q⟩ ?_;exact⟨hz,its',_,hv,q⟩
theorem Inv.lnew{its:List Value}{t':Nat}(I:Inv X pins σ H s)(hv:Vals ys its)(hz:ys.length<=sizeLine) :
  Inv X pins σ (upd H s.heap.objs.size (.lst ys)) { s with heap:=s.heap.push { cls:=.type "list",data:=.seq its.toArray },toks:=t' } :=
 I.laid (λ_ _ q=>xA2 _ q) (xA4 _) ⟨hz,its,0,hv,xA6 _ rfl⟩
theorem Inv.fresh(I:Inv X pins σ H s):H s.heap.objs.size=none:=I.hok.fresh (xA4 _)
theorem Inv.lstM(I:Inv X pins σ H s)(hH:H l=some (.lst xs)):xs.length<=sizeLine/\∃(its:List Value) (n:Nat),Vals xs its/\xs.length=its.length/\s.heap.get? l=some { cls:=.type "list",data:=.seq its.toArray n }:=by
 obtain⟨z,its,n,r,e⟩:=I.hok l _ hH;exact⟨z,its,n,r,r.length,e⟩
theorem ze9{n:Nat}(h:n<=sizeLine):Builtin.List.listTooLong n=false:=by
 unfold Builtin.List.listTooLong;exact xBw ()
end
section
variable {X:Cx}
noncomputable def zhG:V->List V->Hp->VK->Prop:=λx vs H Q=>∃l xs y,x = .ref l/\vs=[y]/\H l=some (.lst xs)/\xs.length<sizeLine/\Q .non (upd H l (.lst (xs++[y])))
theorem zbc:MtM X "list.append" zhG:=by
 intro pins s σ H x vs v us Q I rx rv h;obtain⟨l,xs,y,rfl,rfl,hH,hz,q⟩:=h;cases rx;obtain⟨u,rfl,ru⟩:=rv.one;obtain⟨z,its,n,r,hl,e⟩:=I.lstM hH;refine call_meets F.slot_list_append ⟨_,e,rfl⟩ F.entry_list_append (F.args_list_append_2 _ _) (PySem.list_append l its.toArray n u (by rw[xA5];omega)) ⟨e,?_⟩;refine⟨.non,_,I.lset (its':=its++[u]) hH e (by simp) (r.append (.cons ru .nil)) ?_,rfl,q⟩;rw[xAx,List.length_singleton];omega
noncomputable def yhy:V->List V->Hp->VK->Prop:=λx vs H Q=>∃l b xs zs,x = .ref l/\vs=[.ref b]/\H l=some (.lst xs)/\H b=some (.lst zs)/\xs.length+zs.length<=sizeLine/\Q .non (upd H l (.lst (xs++zs)))
theorem yh0:MtM X "list.extend" yhy:=by
 intro pins s σ H x vs v us Q I rx rv h;obtain⟨l,b,xs,zs,rfl,rfl,hH,hB,hz,q⟩:=h;cases rx;obtain⟨u,rfl,ru⟩:=rv.one;cases ru;obtain⟨z,its,n,r,hl,e⟩:=I.lstM hH;obtain⟨z2,its2,n2,r2,hl2,e2⟩:=I.lstM hB;have hsz:its.toArray.size+its2.toArray.size<=sizeLine:=by rw[xA5,xA5];omega
 have hlong:¬ (!its.toArray.isEmpty&&Builtin.List.listTooLong (its.toArray.size+its2.toArray.size))=true:=by
  rw[ze9 hsz,Bool.and_false];exact xAj
 refine call_meets F.slot_list_extend ⟨_,e,rfl⟩ F.entry_list_extend (F.args_list_extend_2 _ _)
  (AutoSeq1.list_extend_list_list_0 l its.toArray n b its2.toArray n2 hlong (by rw[xA5];omega) ()) ⟨e,e2,?_⟩
 refine⟨.non,_,I.lset (its':=its++its2) hH e (by simp) (r.append r2) ?_,rfl,q⟩;rw[xAx];omega
noncomputable def zib:V->List V->Hp->VK->Prop:=λx vs H Q=>∃l xs i k y,x = .ref l/\vs=[.int i]/\H l=some (.lst xs)/\-(2^63)<=i/\i<2^63/\seqIndex? i xs.length=some k/\xs[k]?=some y/\Q y (upd H l (.lst (xs.eraseIdx k)))
theorem zgN:MtM X "list.pop" zib:=by
 intro pins s σ H x vs v us Q I rx rv h;obtain⟨l,xs,i,k,y,rfl,rfl,hH,h1,h2,hk,hy,q⟩:=h;cases rx;obtain⟨u,rfl,ru⟩:=rv.one;obtain⟨t,rfl⟩:=ru;obtain⟨z,its,n,r,hl,e⟩:=I.lstM hH;obtain⟨w,hw,rw'⟩:=r.get hy;refine call_meets F.slot_list_pop ⟨_,e,rfl⟩ F.entry_list_pop (F.args_list_pop_2 _ _)
  (MeetsSeq.list_pop_at l its.toArray n i t k w (fitsIndex_both h1 h2) (by rw[xA5,<-hl];exact hk) (by rw[<-Array.getElem?_toList];exact hw) (by rw[xA5];omega)) ⟨e,?_⟩
 refine⟨y,_,I.lset (its':=its.eraseIdx k) hH e ?_ (r.eraseIdx k) ?_,rw',q⟩
 ·show its.toArray.eraseIdxIfInBounds k=(its.eraseIdx k).toArray;rw[List.eraseIdxIfInBounds_toArray]
 ·have:=zef xs k;omega
noncomputable def rCat:R2:=λx y H Q=>∃l b xs zs,x = .ref l/\y = .ref b/\H l=some (.lst xs)/\H b=some (.lst zs)/\xs.length+zs.length<=sizeLine/\∀p,H p=none->Q (.ref p) (upd H p (.lst (xs++zs)))
theorem yfB:OpR X (binaryOp .Add) rCat:=by
 intro pins s σ H x y v u Q I rx ry h;obtain⟨l,b,xs,zs,rfl,rfl,hH,hB,hz,q⟩:=h;cases rx;cases ry;obtain⟨z,its,n,r,hl,e⟩:=I.lstM hH;obtain⟨z2,its2,n2,r2,hl2,e2⟩:=I.lstM hB;refine PySem.P.add_list e e2 ?_ (by rw[xA5,xA5];omega);have ea:its.toArray++its2.toArray=(its++its2).toArray:=by simp
 rw[ea];exact⟨.ref _,_,I.lnew (t':=s.toks) (r.append r2) (by rw[xAx];omega),rfl,q _ I.fresh⟩
noncomputable def rRep:R2:=λx y H Q=>∃l k xs,x = .ref l/\y = .int k/\H l=some (.lst xs)/\-(2^63)<=k/\k<2^63/\xs.length*k.toNat<=sizeLine/\
 ∀p,H p=none->Q (.ref p) (upd H p (.lst (List.replicate k.toNat xs).flatten))
theorem zfJ{α:Type}(xs:List α)(k:Nat):(List.replicate k xs).flatten.length=k*xs.length:=by
 induction k with
 |zero=>simp
 |succ k ih=>rw[xBb,List.flatten_cons,xAx,ih,Nat.succ_mul,Nat.add_comm]
theorem zdV:OpR X (binaryOp .Mult) rRep:=by
 intro pins s σ H x y v u Q I rx ry h;obtain⟨l,k,xs,rfl,rfl,hH,h1,h2,hz,q⟩:=h;cases rx;obtain⟨t,rfl⟩:=ry;obtain⟨z,its,n,r,hl,e⟩:=I.lstM hH;have hlen:its.toArray.size*k.toNat<=sizeLine:=by rw[xA5,<-hl];exact hz
 have hcap:¬ its.toArray.size*k.toNat>(2^63-1)/8:=by
  have:(sizeLine:Nat)<=(2^63-1)/8:=by decide
  omega
 have hfit:¬ (!Builtin.List.listFitsIndex k)=true:=by
  rw[fitsIndex_both h1 h2];exact xAj
 have hlong:¬ Builtin.List.listTooLong (its.toArray.size*k.toNat)=true:=by
  rw[ze9 hlen];exact xAj
 have hnew:List.foldl (λx1 x2=>x1++x2) (List.toArray []) (List.replicate (if its.toArray.isEmpty=true then 0 else k.toNat) its.toArray)=(List.replicate k.toNat its).flatten.toArray:=by
  have f0:∀m:Nat,List.foldl (λx1 x2=>x1++x2) (List.toArray []) (List.replicate m its.toArray)=(List.replicate m its).flatten.toArray:=λm=>by
   have:=ycI its m [];rw[List.nil_append]at this;exact this
  rw[f0];cases its with
  |nil=>simp
  |cons a r'=>rw[if_neg (by simp)]
 refine wpAny_binaryOp_repeat_ref (T:="list") (U:="int") #[] ⟨_,e,rfl⟩ (λs'=>typeIs_int s' k t) noFill_list_mul F.fills_int_mul F.slot_int_rmul repeat_list F.slot_int_index.lookup
  (call_meets F.slot_int_rmul (typeIs_int s k t) F.entry_int_rmul (F.args_int_rmul_2 _ _) (int___rmul___int_list k t l its.toArray n)
   ⟨e,rfl,⟨_,e,rfl⟩,call_meets F.slot_list_mul ⟨_,e,rfl⟩ F.entry_list_mul (F.args_list_mul_2 _ _) (AutoListH.list___mul___list_int_3 l its.toArray n k t hfit hcap hlong) ⟨e,?_⟩⟩)
 rw[hnew];exact⟨.ref _,_,I.lnew (t':=s.toks) (r.rep k.toNat) (by rw[zfJ,xAL];exact hz),rfl,q _ I.fresh⟩
end
section
variable {prog:Program} {w:World} {A:Around} {E:Value->Shared->Prop} {s:Shared}
end
section
variable {X:Cx}
end
end L2
namespace Att
open PySem PySem.W PySem.Calls PyProof.Rows
theorem zcM{P:Params}{h:Heap}:∀(ns:List Int) (vs:List Value),WellAll P h vs (ns.map WData.int)->IntsAre vs ns:=by
 intro ns
 induction ns with
 |nil=>
  intro vs w;rw[List.map_nil]at w;cases w;exact .nil
 |cons n ns ih=>
  intro vs w;rw[List.map_cons]at w;cases w with
  |cons a b=>
   cases a;exact .cons _ _ (ih _ b)
theorem yfG{l:OpenLaw}{n:Nat}(hn:l.most=some n){P:Params}{h:Heap}{args:List WData}{vals:List Value}
  (hpre:l.row.toRowW.claim.pre args=true) (hwl:WellAll P h vals args) :
  ∃a vs ns,vals=[Value.ref a]/\args=[WData.list (ns.map WData.int)]/\h.get? a=some { cls:=.type "list",data:=.seq vs.toArray }/\IntsAre vs ns/\ns.length<=n:=by
 have hsh:WShape.hasAll [] args [.list .int]=true:=(pre_splitW hpre).1;have hc:l.pre.holds [] { args:=args }=true:=(pre_splitW hpre).2;obtain⟨d,r,rfl,h1,h2⟩:=hasAllW_cons hsh;obtain rfl:=hasAllW_nil h2;obtain⟨xs,rfl,h3⟩:=hasW_list h1;obtain⟨ns,rfl⟩:=items_int h3;have hlen:ns.length<=n:=by
  unfold OpenLaw.pre at hc;have h4:(WTm.not (.lt (.lit (.int (n:Int))) (.len (.arg 0)))).holds [] { args:=[.list (ns.map .int)] }=true:=by
   have h4:=(holds_andW hc).1;rw[hn]at h4;exact h4
  have h5:=condW_of h4 (w_not (w_lt w_lit (w_len_list (w_arg rfl))));rw[xA1]at h5;refine Nat.le_of_not_lt λq=>?_
  have q':(n:Int)<((ns.length:Nat):Int):=by omega
  first
   |(rw[xAz q']at h5;exact absurd h5 #[])
   |(simp at h5;omega)
 cases hwl with
 |cons w1 w2=>
  cases w2;cases w1 with
  |list ho hall=>exact⟨_,_,ns,rfl,rfl,ho,zcM ns _ hall,hlen⟩
theorem zfV(l:OpenLaw)(args:List WData):l.row.toRowW.claim.post args (.bool true) args=true :=
 postW_of (r:=l.row.toRowW) (X:=(true==true))
  (show WShape.has [] (.bool true) .bool=true by first|rfl|decide|simp[WShape.has,WShape.arms,WShape.armsAll])
  (show(WTm.eq .res (.lit (.bool true))).value [] { args:=args,res:=some (.bool true),after:=args }=some (.bool (true==true)) from w_eq_bool (w_res rfl) w_lit) rfl
theorem attach_call{l:OpenLaw}{n:Nat}{q:Program}{loose:List Str}{XP:(Str->Option Value)->Heap->Prop}{YP:World->Heap->Prop}{d:DefRec}
  (hn:l.most=some n) (hdf:d.params.defaults=[])
  (call:∀(w:World) (s₀ s₁:Shared) (mg mb:Str->Option Value) (fa:Addr) (o:Obj) (pm cd doc:Value) (a:Addr) (vs:List Value) (ns:List Int),
   Ground q loose [] XP w s₀ mg mb s₁.heap->YP w s₁.heap->
   s₁.heap.get? fa=some o->o.data = .func (docDef d.name d.params d.body d.scope pm cd doc)->s₁.heap.CodeRec cd d.name->mg d.name=some (.ref fa)->
   s₁.heap.get? a=some { cls:=.type "list",data:=.seq vs.toArray }->IntsAre vs ns->ns.length<=n->s₁.gens = (List.toArray [])->
   codeAny (model l.prog w) callerA (.call (.ref fa) ⟨[.ref a],[]⟩) (λr s'=>r = .ok (.ret (.bool true))/\OldK s₁.heap s'.heap/\s'.os=s₁.os/\AllBare s'.gens) s₁) :
  WalkO q loose XP YP l.row.toRowW d [] (λf vs=>PySem.call f vs):=by
 intro w s₀ s₁ mg mb G Y fa o pm cd doc dV kV ho hd hcd hD hmg hg args vals as hpre hlay hrd hwl hlo;obtain rfl:dV = .none:=Dflts.none hD hdf;obtain rfl:kV = .none:=Dflts.noKw hD;obtain⟨a,vs,ns,rfl,rfl,hobj,hints,hlen⟩:=yfG hn hpre hwl;refine enter_call (codeAny_mono (call w s₀ s₁ mg mb fa o pm cd doc a vs ns G Y ho (fd_plain hd) hcd hmg hobj hints hlen hg) λr s' hq=>?_);obtain⟨rfl,h2,h3,h4⟩:=hq;exact⟨.inl ⟨.bool true,.bool true,[],rfl,λ_=>rfl,.bool true,zfV l _,λ_=>⟨List.Pairwise.nil,λ_ hm=>(nomatch hm)⟩⟩,h2,h3,h4⟩
section
variable {prog:Program} {w:World} {A:Around} {E:Value->Shared->Prop} {s:Shared} {K:Frag}
end
end Att
namespace L2
open PySem PySem.Spec PyProof.Rows
theorem ydW:∀ {vs:List Value} {ns:List Int},IntsAre vs ns->Vals (ns.map V.int) vs
 |_,_,.nil=>.nil
 |_,_,.cons n t h=>.cons ⟨t,rfl⟩ (ydW h)
noncomputable def Only(H:Hp):Prop:=∀b,H b=none\/∃o xs,H b=some (.frz o (.lst xs))
theorem yg1{P:Program}{w:World}{K:PySem.W.Frag}{mg mb:Str->Option Value}{CX:CXT}{k:Nat}{fa a:Addr}{fd:FuncData}{x:Str}{sp:Sp}{s₁:Shared}{vs:List Value}{ns:List Int}
  (KX:K.In s₁.heap) (hns:s₁.heap.Ns mainGlobals mg) (hb:s₁.heap.Ns builtinsNs mb) (hbb:∀x:Str,x≠"__name__"->mb x=bootBuiltins x) (hlim:s₁.heap.NoLimit) (hg:s₁.gens = (List.toArray []))
  (ha:s₁.heap.get? a=some { cls:=.type "list",data:=.seq vs.toArray }) (hi:IntsAre vs ns) (hl:ns.length<=sizeLine) (hr:Room k callerA)
  (F:∀base:Heap,K.In base->base.Ns mainGlobals mg->FnOk P w K mg base CX k fa fd [x] sp) (hbind:∀(s:Shared) (u:Value),BindsTo s fd ⟨[u],[]⟩ [(x,u)])
  (hsp:∀H:Hp,Only H->SqL K H a (ns.map V.int)->sp [.ref a] H (λv _=>v = .bl true) λ_ _ _=>False)
  (hCX:∀H e s',CX [] H s₁ (λ_ _ _=>False) e s'->False) :
  codeAny (model P w) callerA (.call (.ref fa) ⟨[.ref a],[]⟩) (λr s'=>r = .ok (.ret (.bool true))/\OldK s₁.heap s'.heap/\s'.os=s₁.os/\AllBare s'.gens) s₁:=by
 have rv:=ydW hi;have lenV:=hi.length;have core:∀H:Hp,Only H->SqL K H a (ns.map V.int)->HOk P w H s₁.heap->(∀b,H b≠none->b=a)->(H a≠none->K.lookup a=none)->
   codeAny (model P w) callerA (.call (.ref fa) ⟨[.ref a],[]⟩) (λr s'=>r = .ok (.ret (.bool true))/\OldK s₁.heap s'.heap/\s'.os=s₁.os/\AllBare s'.gens) s₁:=by
  intro H hO hS hok hA hK;have base_of:∀ {b:Addr} {o:Obj},s₁.heap.get? b=some o->H b=none->(hidT s₁.heap H).get? b=some o:=λe n=>zgB e n
  have noA:∀ {b:Addr} {o:Obj} {es:Array DictEntry} {ep:Nat},s₁.heap.get? b=some o->o.data = .dict es ep->H b=none:=λ{b o es ep} e d=>by
   cases q:H b with
   |none=>rfl
   |some u=>
    have e':b=a:=hA b (by rw[q];simp);subst e';rw[ha]at e;cases e;have d':Data.seq vs.toArray _=Data.dict es ep:=d;cases d'
  have nsK:∀ {b:Addr} {m:Str->Option Value},s₁.heap.Ns b m->(hidT s₁.heap H).Ns b m:=λ{b m} ⟨o,es,ep,e,d,r⟩=>⟨o,es,ep,base_of e (noA e d),d,r⟩
  have hKb:K.In (hidT s₁.heap H):=λb o e=>base_of (KX b o e) (by
   cases q:H b with
   |none=>rfl
   |some u=>
    have e':b=a:=hA b (by rw[q];simp);subst e';rw[hK (by rw[q];simp)]at e;cases e)
  have hM:Mod K mg (hidT s₁.heap H):=⟨hKb,nsK hns,⟨mb,nsK hb,hbb⟩,let ⟨mc,h1,h2⟩:=hlim;⟨mc,nsK h1,h2⟩⟩
  have e0:Env0 P w K mg (hidT s₁.heap H) callerA [] s₁ H:=⟨rfl,hM,λb o e=>yhx e,Nat.le_of_eq (yf5 _ _),trivial,λb hb=>absurd (show b∈([]:List Addr) from hb) (by simp),hok,.of_eq hg⟩
  refine codeAny_mono ((F _ hKb (nsK hns)).run callerA [] s₁ H ⟨[.ref a],[]⟩ [.ref a] [.ref a] _ _ hr e0 (hbind s₁ (.ref a)) (.cons rfl .nil) (hsp H hO hS)) λr s' h=>?_
  cases r with
  |error e=>exact(hCX H e s' h).elim
  |ok fl=>
   cases fl with
   |next=>exact False.elim h
   |brk=>exact False.elim h
   |cont=>exact False.elim h
   |ret u=>
    obtain⟨v,H',os,bare,un,hok',r',q⟩:=h;have q':v = .bl true:=q;subst q';obtain rfl:u=Value.bool true:=r';refine⟨rfl,OldK.of_keep λb o e=>?_,os,bare⟩;cases q:H b with
    |none=>exact un.keep b o e q (by intro z;exact absurd (show b∈([]:List Addr) from z) (by simp)) (by simp)
    |some u=>
     rcases hO b with z |⟨ob,xs,z⟩
     ·rw[q]at z;cases z
     ·have z2:=un.frzs b ob _ z;obtain⟨e1,_⟩:=hok b _ z;obtain⟨e2,_⟩:=hok' b _ z2;rw[e]at e1;cases e1;exact e2
 cases hk:K.lookup a with
 |some o=>
  have e:=KX a o hk;rw[ha]at e;cases e;refine core (λ_=>none) (λ_=>.inl rfl) (.inr ⟨_,vs.toArray,_,hk,rfl,rfl,rfl,by rw[xA5,lenV];exact hl,by simpa using rv⟩) (λb u z=>by have z':(none:Option HO)=some u:=z;cases z') (λb z=>absurd rfl z) λz=>absurd rfl z
 |none=>
  refine core (λb=>if b=a then some (.frz { cls:=.type "list",data:=.seq vs.toArray } (.lst (ns.map V.int))) else none) (λb=>?_) (.inl (.inr ⟨{ cls:=.type "list",data:=.seq vs.toArray },if_pos rfl⟩)) (λb u z=>?_) (λb z=>?_) λ_=>hk
  ·by_cases hb:b=a
   ·exact .inr ⟨_,_,if_pos hb⟩
   ·exact .inl (if_neg hb)
  ·by_cases hb:b=a
   ·have z':=(if_pos hb).symm.trans z;cases z';subst hb;exact⟨ha,by rw[xA1];exact hl,vs,_,rv,ha⟩
   ·have z':=(if_neg hb).symm.trans z;cases z'
  ·by_cases hb:b=a
   ·exact hb
   ·exact absurd (if_neg hb) z
end L2
namespace L2
open PySem PySem.Spec PyProof.Rows
noncomputable abbrev KOf{K:PySem.W.Frag}{h:Heap}(_:K.In h):PySem.W.Frag:=K
theorem walk_of{l:PySem.W.OpenLaw}{n k:Nat}{q:Program}{loose:List Str}{XP:(Str->Option Value)->Heap->Prop}{YP:World->Heap->Prop}{d:DefRec}{K:Params->PySem.W.Frag}{CX:World->CXT}{sp:World->Sp}{x:Str}
  (hn:l.most=some n) (hn2:n<=sizeLine) (hdf:d.params.defaults=[]) (hr:Room k callerA)
  (hY:∀(w:World) (h:Heap),YP w h->(K w.params).In h)
  (F:∀(w:World) (mg:Str->Option Value) (fa:Addr) (h:Heap),(K w.params).In h->h.Ns mainGlobals mg->mg d.name=some (.ref fa)->
   ∃fd:FuncData,(∀(s:Shared) (u:Value),BindsTo s fd ⟨[u],[]⟩ [(x,u)])/\
    ∀base:Heap,(K w.params).In base->base.Ns mainGlobals mg->FnOk l.prog w (K w.params) mg base (CX w) k fa fd [x] (sp w))
  (hsp:∀(w:World) (H:Hp) (a:Addr) (ns:List Int),ns.length<=n->Only H->SqL (K w.params) H a (ns.map V.int)->sp w [.ref a] H (λv _=>v = .bl true) λ_ _ _=>False)
  (hCX:∀(w:World) (H:Hp) (s:Shared) (e:Value) (s':Shared),CX w [] H s (λ_ _ _=>False) e s'->False) :
  PySem.W.WalkO q loose XP YP l.row.toRowW d [] (λf vs=>PySem.call f vs):=by
 refine Att.attach_call hn hdf λw s₀ s₁ mg mb fa o pm cd doc a vs ns G Y ho hd hcd hmg hobj hints hlen hg=>?_
 have KX:=hY w _ Y;obtain⟨fd,hb,hF⟩:=F w mg fa _ KX G.T.g hmg;exact yg1 KX G.T.g G.T.b G.T.builtins G.T.nolimit hg hobj hints (xAM hlen hn2) hr hF hb (λH hO hS=>hsp w H a ns hlen hO hS) λH e s'=>hCX w H s₁ e s'
end L2
namespace L2
open PySem PySem.Spec PyProof.Rows
noncomputable def ycq(s:Stmt):Arguments:=match s with
 | .FunctionDef _ a _ _ _ _ _ _ _ _=>a
 |_=>{ posonlyargs:=[],args:=[],vararg:=none,kwonlyargs:=[],kw_defaults:=[],kwarg:=none,defaults:=[] }
noncomputable def zb2(s:Stmt):List Stmt:=match s with
 | .FunctionDef _ _ b _ _ _ _ _ _ _=>b
 |_=>[]
noncomputable def zae(s:Stmt):Scope:=match s with
 | .FunctionDef _ _ _ _ _ _ sc _ _ _=>sc
 |_=>{ kind:=.function,names:=[],isGenerator:=false,isCoroutine:=false }
noncomputable abbrev CX0:CXT:=λ_ _ _ _ _ _=>False
noncomputable abbrev E0:XK:=λ_ _ _=>False
theorem yiG{X:Cx}:yfZ CX0 X E0:=λ_ _ _ _ _ _ _ h=>h.elim
structure Fun(K:PySem.W.Frag)(x qual:Str)(st:Stmt)(f:Addr)(fd:FuncData):Prop where
 ex:∃(oc:Value) (od:Option Addr) (kV doc pm:Value) (an:Option Addr) (cdv ct:Value) (osl:Array (Option Value)),
  fd=PySem.W.fnOf x qual (ycq st) (zb2 st) (zae st) .none kV doc pm an cdv ct/\K.lookup f=some ⟨oc,od,.func fd,osl⟩/\PySem.W.codeIn K cdv qual=true
 kp:PySem.W.keepIn K (.ref f)=true
section
variable {P:Program} {w:World} {K:PySem.W.Frag} {mg:Str->Option Value} {base:Heap}
theorem Fun.ok{x qual:Str}{st:Stmt}{f:Addr}{fd:FuncData}{N ps:List Str}{k:Nat}{sp:Sp}(F:Fun K x qual st f fd)(S:yah N ps (zae st))(len:∀vs H Q E,sp vs H Q E->vs.length=ps.length)
  (hbody:∀(cdv:Value) (A:Around) (outer:List Env) (s:Shared) (H:Hp) (vs:List V) (Q:VK) (E:XK),Room k (A.deeper (envOfC qual (zae st) s.heap.objs.size f cdv))->sp vs H Q E->
   ∃t,PSs (cxOf CX0 P w K mg base N qual (zae st) f cdv A outer s H E).nox (zb2 st) t/\t { nx:=λ_ H'=>Q .non H',rt:=Q } (zd5 N vs) H):FnOk P w K mg base CX0 (k+1) f fd ps sp:=by
 obtain⟨oc,od,kV,doc,pm,an,cdv,ct,osl,rfl,lk,hcd⟩:=F.ex;refine ziz lk hcd S len λA outer s H vs Q E hr hsp=>?_
 obtain⟨t,h,q⟩:=hbody cdv A outer s H vs Q E hr hsp;exact⟨t,h.nox,q⟩
theorem Fun.binds{x qual:Str}{st:Stmt}{f:Addr}{fd:FuncData}{ps:List Str}(F:Fun K x qual st f fd)
  (h:∀(kV doc pm:Value) (an:Option Addr) (cdv ct:Value) (us:List Value),us.length=ps.length->bindArgs (PySem.W.fnOf x qual (ycq st) (zb2 st) (zae st) .none kV doc pm an cdv ct) ⟨us,[]⟩=pure (ps.zip us)):zfs K fd ps []:=by
 obtain⟨oc,od,kV,doc,pm,an,cdv,ct,osl,rfl,lk,hcd⟩:=F.ex;exact .all (h kV doc pm an cdv ct)
theorem yg6{x qual:Str}{st:Stmt}{f:Addr}{oc:Value}{od an:Option Addr}{osl:Array (Option Value)}{kV doc pm cdv ct:Value}(l:K.lookup f=some ⟨oc,od,.func (PySem.W.fnOf x qual (ycq st) (zb2 st) (zae st) .none kV doc pm an cdv ct),osl⟩)
  (c:PySem.W.codeIn K cdv qual=true) (k:PySem.W.keepIn K (.ref f)=true):Fun K x qual st f (PySem.W.fnOf x qual (ycq st) (zb2 st) (zae st) .none kV doc pm an cdv ct):=⟨⟨oc,od,kV,doc,pm,an,cdv,ct,osl,rfl,l,c⟩,k⟩
end
theorem ybG{A:Around}{k:Nat}(hr:Room k A):A.units+1<cLine:=Nat.lt_of_le_of_lt (Nat.add_le_add_left (by decide:1<=64) _) hr.units
theorem zal{n:Nat}(h:n<=1000):n<sizeLine:=Nat.lt_of_le_of_lt h #[]
section
variable {X:Cx}
theorem pv(i:Nat){x:Str}{pos:Pos}(hN:X.N[i]?=some x:=by rfl)(hv:Vis X.env.scope x:=by first|exact Or.inl rfl|exact Or.inr (Or.inl rfl)|exact Or.inr (Or.inr rfl))(hd:(x==("__debug__":Str))=false:=by decide)
  (hcd:(x==("__classdict__":Str))=false:=by decide):PE X (.Name x pos) (tVar i):=yil hN hv hd hcd
end
theorem ite2{c A B:Prop}[Decidable c](h1:c->A)(h2:¬ c->B):if c then A else B:=by
 by_cases h:c
 ·rw[if_pos h];exact h1 h
 ·rw[if_neg h];exact h2 h
noncomputable def Same(H H':Hp):Prop:=∀b o,H b=some o->H' b=some o
theorem Same.refl(H:Hp):Same H H:=λ_ _ h=>h
theorem Same.trans{H H1 H2:Hp}(a:Same H H1)(b:Same H1 H2):Same H H2:=λc o h=>b c o (a c o h)
theorem Same.free{H H':Hp}(e:Same H H'){l:Addr}(h:H' l=Option.none):H l=Option.none:=by
 cases q:H l with
 |none=>rfl
 |some o=>
  rw[e l o q]at h;cases h
theorem Same.seq{K:PySem.W.Frag}{H H':Hp}{a:Addr}{xs:List V}(e:Same H H')(h:SqL K H a xs):SqL K H' a xs:=by
 rcases h with(h |⟨o,h⟩)|h
 ·exact .inl (.inl (e _ _ h))
 ·exact .inl (.inr ⟨o,e _ _ h⟩)
 ·exact .inr h
end L2
end
section
-- text: PpDict
namespace L2
open PySem PySem.Spec PyProof.Rows
section
variable {κ:Type} [DecidableEq κ]
noncomputable def valV(kvs:List (κ×V))(k:κ):Option V:=(kvs.find? λkv=>decide (kv.1=k)).map (·.2)
noncomputable def putK(kvs:List (κ×V))(k:κ)(v:V):List (κ×V) :=
 if (kvs.any λkv=>decide (kv.1=k))=true then kvs.map (λkv=>if kv.1=k then(kv.1,v) else kv) else kvs++[(k,v)]
theorem yfe{p:κ×V}{r:List (κ×V)}{k:κ}(e:p.1=k):valV (p::r) k=some p.2:=by simp[valV,List.find?_cons,e]
theorem ye3{p:κ×V}{r:List (κ×V)}{k:κ}(e:¬ p.1=k):valV (p::r) k=valV r k:=by simp[valV,List.find?_cons,e]
theorem zeI(kvs:List (κ×V))(k:κ)(v:V):(putK kvs k v).length<=kvs.length+1:=by
 unfold putK;split
 ·rw[xA1];omega
 ·rw[xAx,xB8,List.length_nil];omega
theorem KV.val{kvs:List (κ×V)}{vs:List (κ×Value)}(r:KV kvs vs)(k:κ):RelO (valV kvs k) (valueAt vs k):=by
 unfold KV at r
 induction r with
 |nil=>exact True.intro
 |@cons p q ps qs h t ih=>
  obtain⟨h1,h2⟩:=h;by_cases e:p.1=k
  ·have e':q.1=k:=h1.symm.trans e;have b:valueAt (q::qs) k=some q.2:=by simp[valueAt,List.find?_cons,e']
   rw[yfe e,b];exact h2
  ·have e':¬ q.1=k:=λz=>e (h1.trans z)
   have b:valueAt (q::qs) k=valueAt qs k:=by simp[valueAt,List.find?_cons,e']
   rw[ye3 e,b];exact ih
theorem KV.any{kvs:List (κ×V)}{vs:List (κ×Value)}(r:KV kvs vs)(k:κ):(kvs.any λkv=>decide (kv.1=k))=vs.any λkv=>decide (kv.1=k):=by
 unfold KV at r
 induction r with
 |nil=>rfl
 |cons h t ih=>rw[List.any_cons,List.any_cons,ih,h.1]
theorem KV.repl{kvs:List (κ×V)}{vs:List (κ×Value)}(r:KV kvs vs)(k:κ){y:V}{u:Value}(ry:RelV y u) :
  KV (kvs.map λkv=>if kv.1=k then(kv.1,y) else kv) (vs.map λkv=>if kv.1=k then(kv.1,u) else kv):=by
 unfold KV at r ⊢
 induction r with
 |nil=>exact .nil
 |@cons p q ps qs h t ih=>
  rw[List.map_cons,List.map_cons];refine .cons ?_ ih;obtain⟨h1,h2⟩:=h;by_cases e:p.1=k
  ·rw[if_pos e,if_pos (h1.symm.trans e)];exact⟨h1,ry⟩
  ·rw[if_neg e,if_neg (λz=>e (h1.trans z))];exact⟨h1,h2⟩
theorem KV.put{kvs:List (κ×V)}{vs:List (κ×Value)}(r:KV kvs vs)(k:κ){y:V}{u:Value}(ry:RelV y u):KV (putK kvs k y) (stored vs k u):=by
 unfold putK stored;rw[r.any k];by_cases e:(vs.any λkv=>decide (kv.1=k))=true
 ·rw[if_pos e,if_pos e];exact r.repl k ry
 ·rw[if_neg e,if_neg e];exact Paired.snoc r ⟨rfl,ry⟩
theorem KV.keys{kvs:List (κ×V)}{vs:List (κ×Value)}(r:KV kvs vs):kvs.map (·.1)=vs.map (·.1):=by
 unfold KV at r
 induction r with
 |nil=>rfl
 |cons h t ih=>rw[List.map_cons,List.map_cons,ih,h.1]
end
theorem zgY{P:Program}{w:World}{k:Key}{u:Value}(r:RelV (kV k) u):(zaK P w).is k u=true:=by
 cases k with
 |inl i=>obtain⟨t,e⟩:=(show ∃t,u=Value.int i t from r);subst e;exact yev P w i t
 |inr x=>obtain⟨t,e⟩:=(show ∃t,u=Value.str x t from r);subst e;exact yex P w x t
theorem zeg{P:Program}{w:World}:∀ {ks:List Key} {us:List Value},Vals (ks.map kV) us->ItemsAre (zaK P w) ks us
 | [],_,r=>by rw[List.map_nil]at r;cases r;exact .nil
 |k::ks,_,r=>by
  rw[List.map_cons]at r;cases r with
  |cons h t=>exact .cons (zgY h) (zeg t)
noncomputable abbrev KT(H:Hp):List (List Key×V)->List (List Key×Addr×Value)->Prop:=Paired λp q=>p.1=q.1/\H q.2.1=some (.tup (p.1.map kV))/\RelV p.2 q.2.2
theorem KT.val{H:Hp}{kvs:List (List Key×V)}{xs:List (List Key×Addr×Value)}(r:KT H kvs xs)(k:List Key):RelO (valV kvs k) ((atKey xs k).map (·.2)):=by
 induction r with
 |nil=>exact True.intro
 |@cons p q ps qs h t ih=>
  obtain⟨h1,_,h2⟩:=h;by_cases e:p.1=k
  ·have e':q.1=k:=h1.symm.trans e;have b:atKey (q::qs) k=some q.2:=by simp[atKey,List.find?_cons,e']
   rw[yfe e,b];exact h2
  ·have e':¬ q.1=k:=λz=>e (h1.trans z)
   have b:atKey (q::qs) k=atKey qs k:=by simp[atKey,List.find?_cons,e']
   rw[ye3 e,b];exact ih
section
variable {P:Program} {w:World} {H:Hp} {h:Heap} {a:Addr}
theorem zh7{u:HO}(ok:HOk P w H h)(e:Rd H a u):zbh P w H h a u:=e.ok ok
theorem yhO{kvs:List (Key×V)}(ok:HOk P w H h)(e:Rd H a (.dK kvs)):kvs.length<=sizeLine/\(a==sysModules)=false/\∃vs,KV kvs vs/\h.DictOf (zaK P w) a vs :=
 show zbh P w H h a (.dK kvs) from zh7 ok e
theorem yix{kvs:List (Key×V)}(ok:HOk P w H h)(e:H a=some (.dK kvs)):kvs.length<=sizeLine/\(a==sysModules)=false/\∃vs,KV kvs vs/\h.DictOf (zaK P w) a vs:=yhO ok (.inl e)
theorem zhd{ks:List Key}(ok:HOk P w H h)(e:H a=some (.tup (ks.map kV))):(tupleKind (zaK P w)).is h ks a:=by
 obtain⟨_,its,r,o,h1,h2,n,h3⟩:=(show zbh P w H h a (.tup (ks.map kV)) from ok a _ e)
 exact⟨o,its.toArray,n,h1,h2,h3,by simpa using zeg r⟩
theorem yh9{kvs:List (List Key×V)}(ok:HOk P w H h)(e:Rd H a (.dT kvs)):kvs.length<=sizeLine/\(a==sysModules)=false/\
  ∃xs,KT H kvs xs/\h.DictOfH (tupleKind (zaK P w)) a xs:=by
 obtain⟨z,y,xs,r,o,es,ep,h1,h2,h3,h4,h5⟩:=(show zbh P w H h a (.dT kvs) from zh7 ok e)
 refine⟨z,y,xs,r,o,es,ep,h1,h2,h3,h4,λx hx=>?_,h5⟩;have all:∀ {l:List (List Key×V)} {m:List (List Key×Addr×Value)},KT H l m->∀x∈m,(tupleKind (zaK P w)).is h x.1 x.2.1:=by
  intro l m q
  induction q with
  |nil=>intro x hx;exact nomatch hx
  |@cons p q ps qs hq t ih=>
   intro x hx;rcases xAa.mp hx with e|hx
   ·subst e;exact zhd ok (by rw[<-hq.1];exact hq.2.1)
   ·exact ih x hx
 exact all r x hx
end
noncomputable def DGet(H:Hp)(a:Addr)(y:V)(r:Option V):Prop :=
 (∃kvs k,Rd H a (.dK kvs)/\y=kV k/\r=valV kvs k)\/∃kvs k b,Rd H a (.dT kvs)/\y = .ref b/\H b=some (.tup (k.map kV))/\r=valV kvs k
theorem DGet.k{H:Hp}{a:Addr}{kvs:List (Key×V)}{k:Key}(e:H a=some (.dK kvs)):DGet H a (kV k) (valV kvs k):=.inl ⟨kvs,k,.inl e,rfl,rfl⟩
section
variable {X:Cx} {pins:List (Addr×Obj)} {σ:St} {H:Hp} {s:Shared} {a:Addr} {y v:V} {u r:Value} {o:Option V} {A:Around} {E:Value->Shared->Prop}
theorem Inv.big(I:Inv X pins σ H s):sysModules<s.heap.objs.size:=by
 have h:mainGlobals<s.heap.objs.size:=(I.mod.glob.keeps I.bk).lt;exact Nat.lt_trans #[] h
theorem zgr{Q:Value->Shared->Prop}(hu:A.units+1<cLine)(I:Inv X pins σ H s)(g:DGet H a y (some v))(ry:RelV y u)(h:∀w' s',Inv X pins σ H s'->RelV v w'->Q w' s') :
  wpAny (model X.prog X.w) A (getItem (.ref a) u) Q E s:=by
 rcases g with⟨kvs,k,e,ey,l⟩ |⟨kvs,k,b,e,ey,eb,l⟩
 ·subst ey;obtain⟨z,hd,vs,rel,dd⟩:=yhO I.hok e;obtain⟨w',hw,rw'⟩:=RelO.some_of (v:=v) (o:=valueAt vs k) (by rw[l];exact rel.val k);exact wpAny_getItem_of (zgY ry) dd.mapOf hw (h w' _ (I.tok _) rw')
 ·subst ey;cases (show u=Value.ref b from ry);obtain⟨z,hd,xs,rel,dd⟩:=yh9 I.hok e;obtain⟨w',hw,rw'⟩:=RelO.some_of (v:=v) (o:=(atKey xs k).map (·.2)) (by rw[l];exact rel.val k);obtain⟨p,hp,hp2⟩:=Option.map_eq_some_iff.mp hw;refine wpAny_getItem_heap (tupleKind_room_in1 hu) (zhd I.hok eb) dd hp ?_;rw[hp2];exact h w' _ (I.tok _) rw'
theorem yhV{h':Heap}{t':Nat}{ob:HO}(I:Inv X pins σ H s)(mu:Mut (H a))(hs:Heap.SameBut a s.heap h')(he:∃q,h'.get? a=some q)(new:zbh X.prog X.w (upd H a ob) h' a ob) :
  Inv X pins σ (upd H a ob) { s with heap:=h',toks:=t' } :=
 I.write (x:=a) (e:=a) mu (.inl rfl) (λb q hb z=>(hs.2 b hb).trans z) he new
theorem yig{P:Program}{w:World}{H':Hp}{h':Heap}{kvs:List (Key×V)}{vs:List (Key×Value)}(z:kvs.length<=sizeLine)(hd:(a==sysModules)=false)(rel:KV kvs vs)(dd:h'.DictOf (zaK P w) a vs) :
  zbh P w H' h' a (.dK kvs):=⟨z,hd,vs,rel,dd⟩
end
section
variable {X:Cx} {pins:List (Addr×Obj)} {σ:St} {H:Hp} {s:Shared} {a:Addr} {kvs:List (Key×V)} {k:Key} {u:Value} {A:Around} {E:Value->Shared->Prop}
end
noncomputable def NoSl(i:Expr):Prop:=∀ov iv,subscripted i false ov iv=operate [ov,iv] (getItem ov iv)
theorem yhN{prog:Program}{w:World}{A:Around}{E:Value->Shared->Prop}{s:Shared}{env:Env}{value slice:Expr}{pos:Pos}{T id:String}{Q:Value->Shared->Prop}
  (hl:typeLookup (.type T) "__getitem__"=pure (some (.builtin id))) (hs:NoSl slice)
  (h:wpAny (model prog w) A (eval value env) (λo s₁=>wpAny (model prog w) A (eval slice env) (λi s₂=>s₂.TypeIs o T/\wpAny (model prog w) A (getItem o i) Q E s₂) E s₁) E s) :
  wpAny (model prog w) A (eval (.Subscript value slice pos) env) Q E s:=by
 refine Subscript_ (xAQ h (λo s₁ h₁=>xAQ h₁ (λi s₂ h₂=>?_) λ_ _ x=>x) λ_ _ x=>x);obtain⟨hT,h₂⟩:=h₂;unfold subscriptTail;refine xA0 ?_;rw[getitemInPython_of_ne hT.not_modules];refine xA0 (wpAny_specialOf hT hl ?_);have fin:wpAny (model prog w) A (subscripted slice false o i) (λr s₃=>wpAny (model prog w) A (letTemporaryGo value o r >>= λ_=>pure r) Q E s₃) E s₂:=by
  rw[hs o i];exact wpAny_operating (xAQ h₂ (λr s₃ h₃=>xA0 (wpAny_letTemporaryGo (xA3 h₃))) λ_ _ x=>x)
 first
  |exact xA3 (xA0 fin)
  |exact xA0 (xA3 (xA0 fin))
  |exact xA0 fin
theorem yeK{X:Cx}{pins:List (Addr×Obj)}{σ:St}{H:Hp}{s:Shared}{a:Addr}{y:V}{o:Option V}(I:Inv X pins σ H s)(g:DGet H a y o):s.TypeIs (.ref a) "dict":=by
 rcases g with⟨kvs,k,e,_,_⟩ |⟨kvs,k,b,e,_,_,_⟩
 ·obtain⟨_,_,vs,_,dd⟩:=yhO I.hok e;exact dd.typeIs
 ·obtain⟨_,_,xs,_,dd⟩:=yh9 I.hok e;exact dd.typeIs
noncomputable def yiy(td ty:TE):TE:=λσ H Q=>td σ H λx H1=>ty σ H1 λy H2=>∃a v,x = .ref a/\DGet H2 a y (some v)/\Q v H2
section
variable {X:Cx} {o i e value:Expr} {pos pos' tpos:Pos} {td ty tv:TE}
theorem zaH(hu:X.A.units+1<cLine)(ho:PE X o td)(hi:PE X i ty)(hs:NoSl i):PE X (.Subscript o i pos) (yiy td ty):=by
 intro pins s σ H Q I h;refine yhN PySem.F.slot_dict_getitem.lookup hs (thn (ho pins s σ H _ I h) λu s1 ⟨x,H1,I1,rx,q1⟩=>thn (hi pins s1 σ H1 _ I1 q1) λiv s2 ⟨y,H2,I2,ry,a,v,ex,g,q2⟩=>?_);subst ex;obtain rfl:u=Value.ref a:=rx;exact⟨yeK I2 g,zgr hu I2 g ry λw' s3 I3 rw'=>⟨v,H2,I3,rw',q2⟩⟩
end
theorem ygE{P:Program}{w:World}{H:Hp}(h:Heap)(hb:sysModules<h.objs.size):zbh P w H (h.push { cls:=.type "dict",data:=.dict (List.toArray []) }) h.objs.size (.dK []) :=
 ⟨xB1 _,beq_eq_false_iff_ne.mpr (Ne.symm (xAy hb)),[],.nil,Heap.DictOf.new h⟩
section
variable {X:Cx} {pos:Pos}
end
noncomputable def yf9:List (TE×TE)->St->Hp->(List (V×V)->Hp->Prop)->Prop
 | [],_,H,Q=>Q [] H
 |(tk,tv)::r,σ,H,Q=>tk σ H λx H1=>tv σ H1 λy H2=>yf9 r σ H2 λps H3=>Q ((x,y)::ps) H3
noncomputable abbrev VV:List (V×V)->List (Value×Value)->Prop:=Paired λp q=>RelV p.1 q.1/\RelV p.2 q.2
noncomputable def PPs(X:Cx)(pos:Pos)(keys:List (Option Expr))(values:List Expr)(trs:List (TE×TE)):Prop :=
 ∀(pins:List (Addr×Obj)) (s:Shared) (σ:St) (H:Hp) (Q:List (V×V)->Hp->Prop),Inv X pins σ H s->yf9 trs σ H Q->
  wpAny (model X.prog X.w) X.A (evalPairs (pairTrees keys values X.env pos)) (λvs s'=>∃ps H',Inv X pins σ H' s'/\VV ps vs/\Q ps H') X.xe s
theorem zhT{X:Cx}{pos:Pos}:PPs X pos [] [] []:=λpins s σ H Q I h=>pairTrees_nil_walk ⟨[],H,I,.nil,h⟩
theorem ybV{X:Cx}{pos:Pos}{k v:Expr}{ks:List (Option Expr)}{vs:List Expr}{tk tv:TE}{trs:List (TE×TE)}(hk:PE X k tk)(hv:PE X v tv)(hr:PPs X pos ks vs trs) :
  PPs X pos (some k::ks) (v::vs) ((tk,tv)::trs):=λpins s σ H Q I h=>
 pairTrees_cons_walk (thn (hk pins s σ H _ I h) λu s1 ⟨x,H1,I1,rx,q1⟩=>thn (hv pins s1 σ H1 _ I1 q1) λw2 s2 ⟨y,H2,I2,ry,q2⟩=>
  thn (hr pins s2 σ H2 _ I2 q2) λws s3 ⟨ps,H3,I3,rel,q3⟩=>⟨(x,y)::ps,H3,I3,.cons ⟨rx,ry⟩ rel,q3⟩)
noncomputable def ydm(kvs more:List (Key×V)):List (Key×V):=more.foldl (λacc kv=>putK acc kv.1 kv.2) kvs
theorem KV.merge:∀ {more:List (Key×V)} {rs:List (Key×Value)} {kvs:List (Key×V)} {vs:List (Key×Value)},KV more rs->KV kvs vs->KV (ydm kvs more) (merged vs rs):=by
 intro more rs kvs vs r;unfold KV at r
 induction r generalizing kvs vs with
 |nil=>intro q;exact q
 |@cons p q ps qs h t ih=>
  intro r0;have e:KV (putK kvs p.1 p.2) (stored vs q.1 q.2):=by
   have:=r0.put p.1 h.2;rw[<-h.1];exact this
  exact ih e
theorem zcd:∀(more kvs:List (Key×V)),(ydm kvs more).length<=kvs.length+more.length
 | [],kvs=>by show kvs.length<=kvs.length+0;omega
 |p::r,kvs=>by
  have h1:=zcd r (putK kvs p.1 p.2);have h2:=zeI kvs p.1 p.2;show(ydm (putK kvs p.1 p.2) r).length<=_;rw[xB8];omega
theorem ydd{P:Program}{w:World}:∀ {kvs:List (Key×V)} {ws:List (Value×Value)},VV (kvs.map λkv=>(kV kv.1,kv.2)) ws->∃rs,Carries (zaK P w) ws rs/\KV kvs rs
 | [],_,r=>by rw[List.map_nil]at r;cases r;exact⟨[],True.intro,.nil⟩
 |p::kvs,_,r=>by
  rw[List.map_cons]at r;cases r with
  |@cons a b as bs h t=>
   obtain⟨rs,c,q⟩:=ydd (P:=P) (w:=w) t;obtain⟨b1,b2⟩:=b;exact⟨(p.1,b2)::rs,⟨zgY h.1,rfl,c⟩,.cons ⟨rfl,h.2⟩ q⟩
noncomputable def zit(trs:List (TE×TE)):TE:=λσ H Q=>∀p,H p=none->yf9 trs σ (upd H p (.dK [])) λps H2=>H2 p=some (.dK [])/\∃kvs:List (Key×V),ps=kvs.map (λkv=>(kV kv.1,kv.2))/\kvs.length<=15/\Q (.ref p) (upd H2 p (.dK (ydm [] kvs)))
theorem yhk{X:Cx}{pos:Pos}{keys:List (Option Expr)}{values:List Expr}{trs:List (TE×TE)}(h:PPs X pos keys values trs)(hall:keys.all (·.isSome)=true)(hl:keys.length=values.length)(h0:keys≠[])
  (h15:keys.length<=15):PE X (.Dict keys values pos) (zit trs):=by
 intro pins s σ H Q I q;have hn:=I.hok.fresh (xA4 s.heap.objs.size);have I1:=I.laid (a:=s.heap.objs.size) (o:=.dK []) (h':=s.heap.push { cls:=.type "dict",data:=.dict (List.toArray []) }) (t':=s.toks) (λ_ _ q=>xA2 _ q) (xA4 _) (ygE s.heap I.big);refine wpAny_Dict_walk (knd:=zaK X.prog X.w) hall hl h0 h15 (thn (h pins _ σ _ _ I1 (q _ hn)) λws s2 ⟨ps,H2,I2,rel,e,kvs,ep,lk,q2⟩=>?_);subst ep;obtain⟨rs,c,rk⟩:=ydd (P:=X.prog) (w:=X.w) rel;obtain⟨z,hd,vs0,r0,dd⟩:=yix I2.hok e;cases r0;refine⟨rs,c,dd,λh' dd' hs=>⟨.ref s.heap.objs.size,_,?_,rfl,q2⟩⟩;have hz:(ydm [] kvs).length<=sizeLine:=by
  have h1:=zcd kvs [];rw[List.length_nil]at h1;rw[sizeLine_eq];omega
 have he:∃q,h'.get? s.heap.objs.size=some q:=let ⟨q,_,_,hq,_⟩:=dd';⟨q,hq⟩;exact yhV I2 (by rw[e];exact True.intro) hs he (yig hz hd (rk.merge .nil) dd')
structure M1(X:Cx)(o:Expr)(m:Str)(apos:Pos)(e:Expr)(cpos:Pos):Prop where
 base:attributeBase o m X.env (eval o X.env)=eval o X.env
 few:((backTo cpos (starEach [e] X.env)).all (λx=>!x.1)&&(backToKw cpos (keywordEach [] X.env)).all (λx=>x.1.isSome)
  && decide (([e]:List Expr).length+([]:List Keyword).length+(if ([]:List Keyword).isEmpty then 0 else 1)<30))=true
 line:(apos.endLine==cpos.line)=true
 trees:backTo cpos (starEach [e] X.env)=[(false,eval e X.env)]
structure M2(X:Cx)(o:Expr)(m:Str)(apos:Pos)(e f:Expr)(cpos:Pos):Prop where
 base:attributeBase o m X.env (eval o X.env)=eval o X.env
 few:((backTo cpos (starEach [e,f] X.env)).all (λx=>!x.1)&&(backToKw cpos (keywordEach [] X.env)).all (λx=>x.1.isSome)
  && decide (([e,f]:List Expr).length+([]:List Keyword).length+(if ([]:List Keyword).isEmpty then 0 else 1)<30))=true
 line:(apos.endLine==cpos.line)=true
 trees:backTo cpos (starEach [e,f] X.env)=[(false,eval e X.env),(false,eval f X.env)]
section
variable {X:Cx} {pins:List (Addr×Obj)} {σ:St} {H:Hp} {s:Shared} {a:Addr} {y d:V} {u r:Value} {o:Option V} {A:Around} {E:Value->Shared->Prop}
end
section
variable {X:Cx} {o e f:Expr} {apos cpos:Pos} {td ty tx:TE}
end
section
variable {X:Cx} {pins:List (Addr×Obj)} {σ:St} {H:Hp} {s:Shared} {a:Addr} {kvs:List (Key×V)} {A:Around} {E:Value->Shared->Prop}
end
section
variable {X:Cx} {pins:List (Addr×Obj)} {σ:St} {H:Hp} {s:Shared} {a:Addr} {y:V} {u:Value} {A:Around} {E:Value->Shared->Prop}
end
end L2
namespace L2
open PySem PySem.Spec PyProof.Rows
section
variable {X:Cx}
end
end L2
namespace L2
open PySem PySem.Spec PyProof.Rows
section
variable {κ:Type} [DecidableEq κ]
end
end L2
end
section
-- text: ExtA
namespace L2
open PySem PySem.Spec PyProof.Rows
section
variable {prog:Program} {w:World} {A:Around} {R:Result->Shared->Prop} {s:Shared}
theorem zem{elt target iter:Expr}{ifs:List Expr}{scope:Scope}{pos:Pos}{it acc:Value}{env:Env}(I:Nat->Shared->Prop)
  (turn:∀n s,I n s->wpAny (model prog w) A (pyNext it) (λr s₁=>match r with
   |none=>R (.ok .next) s₁
   |some v=>wpAny (model prog w) A (letOwnedTupleGo target it v) (λ_ s₁'=>wpAny (model prog w) A (assign target env v) (λ_ s₂=>
     wpAny (model prog w) A (forIn ifs true λc r=>if r=true then do let ok <-isTrue c env (eval c env);pure (ForInStep.yield ok) else pure (ForInStep.yield r)) (λok s₃=>
      if ok=true then wpAny (model prog w) A (eval elt env) (λx s₄=>
       wpAny (model prog w) A (call (.builtin "list.append") [acc,x]) (λ_ s₅=>∃m,m<n/\I m s₅) (λ_ _=>False) s₄) (λ_ _=>False) s₃
      else ∃m,m<n/\I m s₃) (λ_ _=>False) s₂) (λ_ _=>False) s₁') (λ_ _=>False) s₁) (λ_ _=>False) s)
  (n:Nat) (h:I n s):codeAny (model prog w) A (.compLoop (.ListComp elt [⟨target,iter,ifs,0⟩] scope pos) 0 it acc env) R s:=by
 refine codeAny_loop rfl I (λn s hI=>?_) n h;show wpAny _ A ((compTurn (.ListComp elt [⟨target,iter,ifs,0⟩] scope pos) 0 it acc env).onRaise (λx=>do noteFrame x env;theTreesLotGoes x)) _ _ s;refine wpAny_noted (wpAny_noRaise ?_);rw[compTurn_list];refine xA0 (wpAny_standAt (xA0 (xAQ (turn n s hI) (λr s₁ h₁=>?_) λ_ _ h'=>h')));cases r with
 |none=>exact xA3 h₁
 |some v=>
  refine xA0 (xAQ h₁ (λ_ s₁' h₁'=>?_) λ_ _ h'=>h');refine xA0 (xAQ h₁' (λ_ s₂ h₂=>xA0 (xAQ h₂ (λok s₃ h₃=>?_) λ_ _ h'=>h')) λ_ _ h'=>h');cases ok with
  |false=>exact xA3 ⟨rfl,h₃⟩
  |true=>
   exact xA0 (xA0 (xAQ h₃ (λx s₄ h₄=>xA0 (xAQ h₄ (λ_ s₅ h₅=>xA3 (xA3 ⟨rfl,h₅⟩)) λ_ _ h'=>h')) λ_ _ h'=>h'))
end
theorem yaQ{α:Type}{x:Str}{k:α}:∀ {l:List (Str×α)},l.lookup x=some k->(x,k)∈l:=λh=>PySem.mem_of_lookup h
theorem ybd{scope:Scope}{env:Env}(h:∀x∈scope.names,x.2 = .free->∃c,env.cells.lookup x.1=some c) :
  ∃cl,closureFor scope env=pure cl/\(∀n c,cl.lookup n=some c->env.cells.lookup n=some c)/\(∀n,(n,NameKind.free)∈scope.names->∃c,cl.lookup n=some c):=by
 have aux:∀(names:List (Str×NameKind)) (cs:List (Str×Addr)),(∀x∈names,x.2 = .free->∃c,env.cells.lookup x.1=some c)->(∀n c,cs.lookup n=some c->env.cells.lookup n=some c)->
   ∃cl,(forIn names cs λx r=>if (x.2==NameKind.free)=true then do let a <-cellOf env x.1;pure (ForInStep.yield ((x.1,a)::r)) else pure (ForInStep.yield r):Sem (List (Str×Addr)))=pure cl/\
    (∀n c,cl.lookup n=some c->env.cells.lookup n=some c)/\(∀n,((n,NameKind.free)∈names\/∃c,cs.lookup n=some c)->∃c,cl.lookup n=some c):=by
  intro names
  induction names with
  |nil=>intro cs _ hc;exact⟨cs,rfl,hc,λn h=>h.elim (λz=>nomatch z) id⟩
  |cons x r ih=>
   intro cs hx hc;obtain⟨n,k⟩:=x;have hr:∀x∈r,x.2 = .free->∃c,env.cells.lookup x.1=some c:=λy hy=>hx y (xAd _ hy)
   by_cases hk:k = .free
   ·subst hk;obtain⟨c,e⟩:=hx (n,.free) xAf rfl;have hc':∀m d,List.lookup m ((n,c)::cs)=some d->env.cells.lookup m=some d:=λm d hm=>by
     rw[List.lookup_cons]at hm;cases hb:m==n with
     |true=>rw[hb]at hm;cases hm;rw[eq_of_beq hb];exact e
     |false=>rw[hb]at hm;exact hc m d hm
    obtain⟨cl,h1,h2,h3⟩:=ih ((n,c)::cs) hr hc';refine⟨cl,?_,h2,λm hm=>h3 m ?_⟩
    ·rw[List.forIn_cons];have e2:cellOf env n=pure c:=by unfold cellOf;rw[e]
     simp only[beq_self_eq_true,if_true,e2];exact h1
    ·rcases hm with hm |⟨d,hm⟩
     ·rcases xAa.mp hm with q|q
      ·cases q;exact .inr ⟨c,by rw[List.lookup_cons,beq_self_eq_true]⟩
      ·exact .inl q
     ·refine .inr ?_;rw[List.lookup_cons];cases hb:m==n with
      |true=>exact⟨c,rfl⟩
      |false=>exact⟨d,hm⟩
   ·obtain⟨cl,h1,h2,h3⟩:=ih cs hr hc;refine⟨cl,?_,h2,λm hm=>h3 m ?_⟩
    ·rw[List.forIn_cons];have:(k==NameKind.free)=false:=by simpa using hk
     simp only[this,Bool.false_eq_true,if_false];exact h1
    ·rcases hm with hm|hm
     ·rcases xAa.mp hm with q|q
      ·cases q;exact absurd rfl hk
      ·exact .inl q
     ·exact .inr hm
 obtain⟨cl,h1,h2,h3⟩:=aux scope.names [] h (λn c z=>by simp at z);refine⟨cl,?_,h2,λn hn=>h3 n (.inl hn)⟩;simp only[closureFor];rw[h1];rfl
theorem zaN{env:Env}:∀ {names:List (Str×NameKind)} {x:Str} {k:NameKind},
  (names.map λ(n,k)=>if (k==NameKind.free&&env.scope.kind==.function&&env.kindOf n==some .cell) then(n,NameKind.cell) else(n,k)).lookup x=some k->(k = .cell\/k = .free)->
  names.lookup x=some .free\/names.lookup x=some .cell
 | [],_,_,h,_=>by simp at h
 |(n,q)::r,x,k,h,hk=>by
  have ih:=@zaN env r x k;rw[List.map_cons,List.lookup_cons]at h;rw[List.lookup_cons];by_cases hc:(q==NameKind.free&&env.scope.kind==.function&&env.kindOf n==some .cell)=true
  ·simp only[if_pos hc]at h;cases hx:x==n with
   |true=>
    have:q = .free:=by
     have:=(Bool.and_eq_true_iff.mp (Bool.and_eq_true_iff.mp hc).1).1;exact eq_of_beq this
    simp[this]
   |false=>rw[hx]at h;exact ih h hk
  ·simp only[if_neg hc]at h;cases hx:x==n with
   |true=>
    rw[hx]at h;cases h;rcases hk with rfl|rfl
    ·exact .inr rfl
    ·exact .inl rfl
   |false=>rw[hx]at h;exact ih h hk
theorem zbP{env:Env}:∀ {names:List (Str×NameKind)} {x:Str},names.lookup x=some .free->
  (names.map λ(n,k)=>if (k==NameKind.free&&env.scope.kind==.function&&env.kindOf n==some .cell) then(n,NameKind.cell) else(n,k)).lookup x=some .cell\/
  (names.map λ(n,k)=>if (k==NameKind.free&&env.scope.kind==.function&&env.kindOf n==some .cell) then(n,NameKind.cell) else(n,k)).lookup x=some .free
 | [],_,h=>by simp at h
 |(n,q)::r,x,h=>by
  have ih:=@zbP env r x;rw[List.map_cons,List.lookup_cons];rw[List.lookup_cons]at h;by_cases hc:(q==NameKind.free&&env.scope.kind==.function&&env.kindOf n==some .cell)=true
  ·simp only[if_pos hc];cases hx:x==n with
   |true=>exact .inl rfl
   |false=>rw[hx]at h;exact ih h
  ·simp only[if_neg hc];cases hx:x==n with
   |true=>rw[hx]at h;cases h;exact .inr rfl
   |false=>rw[hx]at h;exact ih h
noncomputable def cxC(X:Cx)(N:List Str)(scope:Scope)(cl:List (Str×Addr))(C:Addr)(fp:List Addr)(s:Shared)(H:Hp):Cx :=
 { prog:=X.prog,w:=X.w,K:=X.K,mg:=X.mg,base:=X.base,A:=X.A,N:=N,s₀:=s,H₀:=H,env:=compEnvC scope cl C X.env,outer:=X.stack,stack:=X.stack,ex:=fp,fn:=λ_=>false,calm:=X.calm,pn:=[],xe:=λ_ _=>False }
structure CSc(M:List Str)(sc:Scope)(tg cp:List Str)(ci:List Nat)(scope:Scope):Prop where
 kind:scope.kind = .function
 nocell:∀x∈scope.names,x.2≠.cell
 loc:∀x∈scope.names,x.2 = .local->scope.names.lookup x.1=some .local
 free:∀x∈scope.names,x.2 = .free->sc.names.lookup x.1=some .cell\/sc.names.lookup x.1=some .free
 cap:∀x∈cp,scope.names.lookup x=some .free
 at_:ci.map (M[·]?)=cp.map some
 nd:(tg++cp).Nodup
noncomputable def capσ(k:Nat)(ci:List Nat)(σ:St):St:=List.replicate k none++ci.map λi=>(σ[i]?).join
noncomputable abbrev ygt:=Nat->Nat->List V->Hp->Prop
noncomputable def zhP(wi:TI)(k:Nat)(ci:List Nat)(g:TG)(ti:TT)(te:TE):TE:=λσ H Q=>wi σ H λJ H1=>∃W:ygt,(∃m,W 0 m [] H1)/\∀i m acc H,W i m acc H->
 (J.stop i H/\∀D,H D=none->Q (.ref D) (upd H D (.lst acc)))\/
 (J.go i H/\acc.length<sizeLine/\∃N:List V->Hp->Prop,(∀acc' H',N acc' H'->∃m',m'<m/\W (i+1) m' acc' H')/\∀x H',J.yld i H x H'->g x (capσ k ci σ) H' λσ2 H2=>ti σ2 H2 λb H3=>if b=true then te σ2 H3 λv H4=>N (acc++[v]) H4 else N acc H3)
noncomputable def PIfs(X:Cx)(ifs:List Expr)(t:TT):Prop :=
 ∀(pins:List (Addr×Obj)) (s:Shared) (σ:St) (H:Hp) (Q:Bool->Hp->Prop),Inv X pins σ H s->t σ H Q->
  wpAny (model X.prog X.w) X.A (forIn ifs true λc r=>if r=true then do let ok <-isTrue c X.env (eval c X.env);pure (ForInStep.yield ok) else pure (ForInStep.yield r)) (TP X pins σ Q) X.xe s
noncomputable def ziG:TT:=λ_ H Q=>Q true H
theorem yaD{X:Cx}:PIfs X [] ziG:=λpins s σ H Q I h=>wpAny_tests_nil ⟨H,I,h⟩
theorem ycB{X:Cx}{c:Expr}{t:TT}(h:PT X c t):PIfs X [c] t:=λpins s σ H Q I hq=>wpAny_tests_one (h pins s σ H Q I hq)
section
variable {X:Cx}
structure Gone(X:Cx)(pins:List (Addr×Obj))(H:Hp)(s:Shared)(C:Addr):Prop where
 ns:∃m,s.heap.Ns C m
 free:H C=none
 ne:C≠X.env.locals
 ab:X.s₀.heap.objs.size<=C
 cells:∀x c,X.env.cells.lookup x=some c->c≠C
 pins:∀p∈X.pn++pins,p.1≠C
 nofs:C∉X.fs
theorem zeT{elt target iter:Expr}{ifs:List Expr}{scope:Scope}{pos:Pos}{tg cp:List Str}{ci:List Nat}{wi:TI}{g:TG}{ti:TT}{te:TE}
  {pins:List (Addr×Obj)} {s:Shared} {σ:St} {H:Hp} {Q:VK} {cl:List (Str×Addr)}
  (S:CSc X.N X.env.scope tg cp ci scope) (hcalm:X.calm=true) (hi:PI X target iter wi)
  (hcl1:∀n c,cl.lookup n=some c->X.env.cells.lookup n=some c) (hcl2:∀n,(n,NameKind.free)∈scope.names->∃c,cl.lookup n=some c)
  (hg:∀C fp s H,PG (cxC X (tg++cp) scope cl C fp s H) target g) (ht:∀C fp s H,PIfs (cxC X (tg++cp) scope cl C fp s H) ifs ti) (he:∀C fp s H,PE (cxC X (tg++cp) scope cl C fp s H) elt te)
  (I:Inv X pins σ H s) (h:zhP wi tg.length ci g ti te σ H Q) :
  wpAny (model X.prog X.w) X.A (eval iter X.env) (λx s₁=>wpAny (model X.prog X.w) X.A (pyIter x) (λit s₂=>wpAny (model X.prog X.w) X.A (newList []) (λacc s₃=>
   wpAny (model X.prog X.w) X.A (newFunctionEnv scope X.env.globals cl [] X.env.qual none .none (some X.env)) (λcenv s₄=>
    codeAny (model X.prog X.w) X.A (.compStart (.ListComp elt [⟨target,iter,ifs,0⟩] scope pos) 0 it acc { cenv with scope:=relabel scope X.env })
     (λr s'=>∃D vs H',acc = .ref D/\r = .ok .next/\Inv X pins σ (upd H' D (.lst vs)) s'/\H' D=none/\Gone X pins (upd H' D (.lst vs)) s' cenv.locals/\∀D',H' D'=none->Q (.ref D') (upd H' D' (.lst vs))) s₄) X.xe s₃) X.xe s₂) X.xe s₁) X.xe s:=by
 refine thn (hi pins s σ H _ I h) λv s1 h1=>thn h1 λitv s2 h2=>?_
 obtain⟨it,fp,tn,J,H2,e,I2,T,st2,f2,W,⟨m0,w0⟩,turn⟩:=h2;subst e;refine xAs (wpAny_newFunctionEnv S.nocell (by intro y hy;simp at hy) (λh₁ hns₁ hsb₁=>?_) S.kind);dsimp only at hns₁ hsb₁ ⊢;generalize hHL:s2.heap.push { cls:=.type "list",dict:=none,data:=.seq ([]:List Value).toArray }=HL at hns₁ hsb₁ ⊢;have hC:HL.objs.size=s2.heap.objs.size+1:=by rw[<-hHL,xB4]
 generalize hD:s2.heap.objs.size=D at hC ⊢;generalize hCC:HL.objs.size=C at hns₁ hsb₁ hC ⊢;have hDC:D≠C:=by omega
 have old:∀b o,s2.heap.get? b=some o->h₁.get? b=some o:=λb o e=>by
  have lt:s2.heap.objs.size>=Nat.succ b:=xAc e;refine hsb₁.extBut b o (show @Ne Nat b C by omega) (xA2 _ (hHL ▸ xA2 _ e))
 have hD1:h₁.get? D=some { cls:=.type "list",data:=.seq ([]:List Value).toArray 0 }:=by
  refine hsb₁.extBut D _ hDC (xA2 _ ?_);rw[<-hHL,<-hD];exact xA6 _ rfl
 have fD:H2 D=none:=I2.hok.fresh ();have fC:H2 C=none:=I2.hok.fresh ()
 let X':Cx:=cxC X (tg++cp) scope cl C fp s2 H2
 have ok':X'.Ok:=by
  refine⟨I2.ok.mod,?_,I2.ok.glob,I2.ok.blt,?_,?_,?_,?_,I2.ok.hd,I2.ok.frames,.inl rfl,?_,I2.bs,xAM I2.ok.bsz I2.sz,?_,?_,I2.stack,I2.stkFree⟩
  ·exact S.kind
  ·show s2.heap.objs.size<=C;omega
  ·intro x y c hx hy;exact I2.ok.inj x y c (hcl1 x c hx) (hcl1 y c hy)
  ·intro x hx;have hx':(relabel scope X.env).names.lookup x=some .cell\/(relabel scope X.env).names.lookup x=some .free:=hx;have q:scope.names.lookup x=some .free\/scope.names.lookup x=some .cell:=by
    rcases hx' with z|z
    ·exact zaN z (.inl rfl)
    ·exact zaN z (.inr rfl)
   rcases q with q|q
   ·exact hcl2 x (yaQ q)
   ·exact absurd rfl (S.nocell _ (yaQ q))
  ·intro x c hx;cases hx
  ·intro b hb;obtain⟨o,eo,_⟩:=T.obj _ _ st2 b hb;have lt:s2.heap.objs.size>=Nat.succ b:=xAc eo;exact⟨by show @Ne Nat b C;omega,λx c hx=>(f2 b hb).2.2.2.2.1 x c (hcl1 x c hx)⟩
  ·intro b o e hb;rcases(f2 b hb).2.2.2.1 with z|z
   ·exact I2.ok.noex b o e z
   ·have l1:X.base.objs.size>=Nat.succ b:=xAc e;have l2:X.base.objs.size<=X.s₀.heap.objs.size:=I2.ok.bsz;have l3:X.s₀.heap.objs.size<=(b:Nat):=z;omega
  ·intro b hb hbs;rcases xAa.mp (I2.stkSub b hbs) with z|z
   ·exact(f2 b hb).2.1 z
   ·exact(f2 b hb).2.2.1 z
 have capLen:(capσ tg.length ci σ).length=X'.N.length:=by
  show(List.replicate tg.length none++ci.map λi=>(σ[i]?).join).length=(tg++cp).length;have:=congrArg List.length S.at_;simp only[xA1]at this;simp[this]
 have capLook:∀(h':Heap) (m':Str->Option Value),(∀x c o,X.env.cells.lookup x=some c->s2.heap.get? c=some o->∃sl,h'.get? c=some { o with slots:=sl })->
   ∀(i:Nat) (x:Str) (v:V),X'.N[i]?=some x->(capσ tg.length ci σ)[i]?=some (some v)->Vis X'.env.scope x->∃u,RelV v u/\Look X'.env h' m' x u:=by
  intro h' m' hcell i x v e1 e2 e3;have e1':(tg++cp)[i]?=some x:=e1;have e2':(List.replicate tg.length none++ci.map λi=>(σ[i]?).join)[i]?=some (some v):=e2;by_cases hi':i<tg.length
  ·rw[List.getElem?_append_left (by simpa using hi'),List.getElem?_replicate]at e2';split at e2' <;> cases e2'
  ·rw[List.getElem?_append_right (by simpa using hi'),xAq,xA9]at e2';rw[List.getElem?_append_right ()]at e1';cases hj:ci[i-tg.length]? with
   |none=>rw[hj]at e2';cases e2'
   |some j=>
    rw[hj]at e2';have e2'':(σ[j]?).join=some v:=xAw e2';have e4:σ[j]?=some (some v):=by
     cases q:σ[j]? with
     |none=>rw[q]at e2'';cases e2''
     |some z=>rw[q]at e2'';exact congrArg some e2''
    have e5:X.N[j]?=some x:=by
     have:=congrArg (·[i-tg.length]?) S.at_;simp only[xA9,hj,e1',Option.map_some]at this;exact xAw this
    have hx:scope.names.lookup x=some .free:=S.cap x (xBo e1');have hk:=S.free (x,.free) (yaQ hx) rfl;obtain⟨m,hn,hl⟩:=I2.loc;obtain⟨u,r,l⟩:=hl j x v e5 e4 (.inr hk);refine⟨u,r,.inr ⟨?_,?_⟩⟩
    ·exact zbP hx
    ·rcases l with⟨k1,_⟩ |⟨_,c,k2,k3⟩
     ·have k1':X.env.scope.names.lookup x=some .local:=k1;rcases hk with z|z <;> (rw[z]at k1';cases k1')
     ·obtain⟨c',hc'⟩:=hcl2 x (yaQ hx);have:=hcl1 x c' hc';rw[k2]at this;cases this;obtain⟨o,ho,hd⟩:=k3;obtain⟨sl,q⟩:=hcell x c o k2 ho;exact⟨c,hc',_,q,hd⟩
 have I':∀tk,Inv X' [] (capσ tg.length ci σ) H2 { s2 with heap:=h₁,toks:=tk }:=λtk=>by
  refine⟨ok',rfl,I2.bare,Un.kept old,⟨_,hns₁,capLook _ _ λx c o _ e=>⟨o.slots,old c o e⟩⟩,λx c hx=>?_,fC,λx c hx=>I2.freeC x c (hcl1 x c hx),λp hp=>absurd (show p∈([]:List (Addr×Obj)) from hp) (by simp),I2.hok.kept old,?_⟩
  ·obtain⟨v,o,ho,hd⟩:=I2.cell x c (hcl1 x c hx);exact⟨v,o,old c o ho,hd⟩
  ·exact capLen
 have recap:∀ {pl pl':List (Addr×Obj)} {σ':St} {H':Hp} {s':Shared},Inv X' (pl++pl') σ' H' s'->Inv X' pl (capσ tg.length ci σ) H' s':=λ{pl pl' σ' H' s'} J=>by
  obtain⟨m,hn,_⟩:=J.loc;have u:Un (frs X.stack) fp H2 H' s2.heap s'.heap:=J.base;exact⟨J.ok,J.os,J.bare,J.base,⟨m,hn,capLook _ _ λx c o hx e=>u.any e (I2.freeC x c hx) λhb=>(f2 c hb).2.2.2.2.1 x c hx rfl⟩,J.cell,J.free,J.freeC,
   λp hp=>(xAB.mp hp).elim (λz=>J.pin p (xAG _ z)) (λz=>J.pin p (xAb _ (xAG _ z))),J.hok,capLen⟩
 have stat:∀ {H':Hp},(∀b∈fp,H' b=none)->∀b∈fp,FpOk X' [] H' b:=λhn b hb=>by
  obtain⟨o,eo,_⟩:=T.obj _ _ st2 b hb;have lt:s2.heap.objs.size>=Nat.succ b:=xAc eo;exact⟨hn b hb,by show @Ne Nat b C;omega,ok'.exfs b hb,.inl hb,(ok'.exf b hb).2,λp hp=>absurd (show p∈([]:List (Addr×Obj)) from hp) (by simp)⟩
 have hDfp:D∉fp:=λhb=>by obtain⟨o,eo,_⟩:=T.obj _ _ st2 D hb;have lt:s2.heap.objs.size>=Nat.succ D:=xAc eo;omega
 have hDcell:∀x c,X'.env.cells.lookup x=some c->c≠D:=λx c hx=>by
  obtain⟨v,o,ho,hd⟩:=I2.cell x c (hcl1 x c hx);have lt:s2.heap.objs.size>=Nat.succ c:=xAc ho;intro z;have z':@Eq Nat c D:=z;omega
 have hDfs:D∉X'.fs:=λhb=>by
  have:D∈X.env.locals::X.fs:=I2.stkSub D hb;rcases xAa.mp this with z|z
  ·have l1:s2.heap.objs.size>=Nat.succ X.env.locals:=I2.lt;have z':@Eq Nat D X.env.locals:=z;omega
  ·exact I2.nofs (show s2.heap.objs.size<=D by omega) z
 have fin:∀ {pl:List (Addr×Obj)} {σ':St} {H':Hp} {s':Shared} {vs:List V} {us:List Value} {k:Nat},Inv X' pl σ' H' s'->H' D=none->s'.heap.get? D=some { cls:=.type "list",data:=.seq us.toArray k }->Vals vs us->vs.length<=sizeLine->
   (∀D',H' D'=none->Q (.ref D') (upd H' D' (.lst vs)))->
   ∃D' vs H',Value.ref D = .ref D'/\(Except.ok Flow.next:Result) = .ok .next/\Inv X pins σ (upd H' D' (.lst vs)) s'/\H' D'=none/\Gone X pins (upd H' D' (.lst vs)) s' C/\∀D',H' D'=none->Q (.ref D') (upd H' D' (.lst vs)):=by
  intro pl σ' H' s' vs us k J f e r z q;have u:Un (frs X.stack) fp H2 H' s2.heap s'.heap:=J.base;have lt:∀ {b:Addr} {o:Obj},s2.heap.get? b=some o->b≠D:=λ{b o} eb zb=>by
   have l1:s2.heap.objs.size>=Nat.succ b:=xAc eb;have l2:@Eq Nat b D:=zb;omega
  have u2:Un (frs X.stack) fp H2 (upd H' D (.lst vs)) s2.heap s'.heap :=
   ⟨u.keep,u.slot,λb o eb n hx=>by rw[zah (lt eb)];exact u.free b o eb n hx,u.there,
    λb xs eb=>by rw[zah (zaf eb fD)];exact u.tups b xs eb,λb o uu eb=>by rw[zah (zaf eb fD)];exact u.frzs b o uu eb,λb ps eb=>by rw[zah (zaf eb fD)];exact u.tbls b ps eb⟩
  have hok2:HOk X.prog X.w (upd H' D (.lst vs)) s'.heap:=λb o eb=>by
   by_cases hb:b=D
   ·subst hb;rw[yab]at eb;cases eb;exact⟨z,us,k,r,e⟩
   ·rw[zah hb]at eb;refine(J.hok b o eb).stay (λ_ _ _ q=>q) (λc hc=>?_) λc xs hc=>?_
    ·rw[zah (λzz=>by rw[zz,f]at hc;cases hc)];exact hc
    ·rw[zah (λzz=>by rw[zz,f]at hc;cases hc)];exact hc
  refine⟨D,vs,H',rfl,rfl,I2.call' (ch:=fp) J.os u2 hok2 J.bare ?_,f,⟨?_,?_,?_,?_,?_,?_,?_⟩,q⟩
  ·intro b hb;obtain⟨_,a2,_,a4,a5,a6⟩:=f2 b hb;exact⟨a4,a2,a5,a6⟩
  ·obtain⟨m,hn,_⟩:=J.loc;exact⟨m,hn⟩
  ·rw[zah (Ne.symm hDC)];exact J.free
  ·have l1:s2.heap.objs.size>=Nat.succ X.env.locals:=I2.lt;intro zz;have zz':@Eq Nat C X.env.locals:=zz;omega
  ·have l1:X.s₀.heap.objs.size<=s2.heap.objs.size:=I2.sz;show X.s₀.heap.objs.size<=C;omega
  ·intro x c hx zz;obtain⟨v,o,ho,hd⟩:=I2.cell x c hx;have l1:s2.heap.objs.size>=Nat.succ c:=xAc ho;have zz':@Eq Nat c C:=zz;omega
  ·intro p hp zz;have l1:s2.heap.objs.size>=Nat.succ p.1:=xAc (I2.pin p hp).1;have zz':@Eq Nat p.1 C:=zz;omega
  ·exact I2.nofs (show s2.heap.objs.size<=C by omega)
 have loop:∀tk,codeAny (model X.prog X.w) X.A (.compLoop (.ListComp elt [⟨target,iter,ifs,0⟩] scope pos) 0 (.ref it) (.ref D) (compEnvC scope cl C X.env))
   (λr s'=>∃D' vs H',Value.ref D = .ref D'/\r = .ok .next/\Inv X pins σ (upd H' D' (.lst vs)) s'/\H' D'=none/\Gone X pins (upd H' D' (.lst vs)) s' C/\∀D',H' D'=none->Q (.ref D') (upd H' D' (.lst vs))) { s2 with heap:=h₁,toks:=tk }:=by
  intro tk;refine zem (λn s'=>∃i vs us k H',Inv X' [] (capσ tg.length ci σ) H' s'/\tn i s'.heap/\(∀b∈fp,H' b=none)/\H' D=none/\s'.heap.get? D=some { cls:=.type "list",data:=.seq us.toArray k }/\Vals vs us/\vs.length<=sizeLine/\W i n vs H') ?_ m0
   ⟨0,[],[],0,H2,I' tk,T.keep _ _ _ st2 (λb hb o e=>old b o e),λb hb=>(f2 b hb).1,fD,hD1,.nil,xB1 _,w0⟩
  rintro n s3 ⟨i,vs,us,k,H3,I3,st3,fr3,fD3,hD3,rv3,z3,w3⟩
  let pD:List (Addr×Obj):=[(D,{ cls:=.type "list",data:=.seq us.toArray k })]
  have pinD:∀ {σ':St} {H':Hp} {s':Shared},Inv X' [] σ' H' s'->H' D=none->s'.heap.get? D=some { cls:=.type "list",data:=.seq us.toArray k }->Inv X' pD σ' H' s':=λ{σ' H' s'} J f e=>
   J.pins_of λp hp=>by
    have:p=(D,{ cls:=.type "list",data:=.seq us.toArray k }):=by simpa[pD]using hp
    subst this;exact⟨e,f,hDC,hDfs,λv z=>by cases z⟩
  have statD:∀ {H':Hp},(∀b∈fp,H' b=none)->∀b∈fp,FpOk X' pD H' b:=λhn b hb=>by
   obtain⟨a1,a2,a3,a4,a5,_⟩:=stat hn b hb;refine⟨a1,a2,a3,a4,a5,λp hp=>?_⟩;have:p=(D,{ cls:=.type "list",data:=.seq us.toArray k }):=by
    have hp':p∈([]:List (Addr×Obj))++pD:=hp
    simpa[pD]using hp'
   subst this
   exactλz=>hDfp (by rw[show D=b from z];exact hb)
  rcases turn i n vs H3 w3 with⟨stop,qn⟩ |⟨go,zl,N,hN,step⟩
  ·refine thn (T.done X' rfl rfl rfl hcalm i pD s3 _ H3 _ (pinD I3 fD3 hD3) (statD fr3) st3 stop) λr s4 ⟨hr,I4⟩=>?_
   subst hr;have eD:s4.heap.get? D=some { cls:=.type "list",data:=.seq us.toArray k }:=(I4.pin (D,_) (by simp[pD])).1;exact fin I4 fD3 eD rv3 z3 qn
  ·refine thn (T.item X' rfl rfl rfl hcalm i pD s3 _ H3 _ (pinD I3 fD3 hD3) (statD fr3) st3 go) λr s4 ⟨u,hr,h4⟩=>?_
   subst hr;refine thn h4 λ_ s5 ⟨x,H5,I5,r5,y5,st5,fr5⟩=>?_
   have I5':=I5.pinned (statD fr5) (T.obj _ _ st5);refine thn (hg C fp s2 H2 _ s5 _ H5 x u _ I5' r5 (step x H5 y5)) λ_ s6 ⟨σ6,H6,I6,q6⟩=>?_
   refine thn (ht C fp s2 H2 _ s6 σ6 H6 _ I6 q6) λb s7 ⟨H7,I7,q7⟩=>?_
   have again:∀ {s8:Shared} {H8:Hp},Inv X' (pD++yct fp s5.heap) σ6 H8 s8->Inv X' pD (capσ tg.length ci σ) H8 s8/\tn (i+1) s8.heap/\(∀b∈fp,H8 b=none)/\H8 D=none/\s8.heap.get? D=some { cls:=.type "list",data:=.seq us.toArray k }:=λ{s8 H8} I8=>by
    have e8:=I8.pin (D,_) (xAb _ (xAG _ (by simp[pD] <;> rfl)));refine⟨?_,T.keep _ _ _ st5 λb hb o e=>(I8.pin (b,o) (xAb _ (xAb _ (zbb hb e)))).1,λb hb=>?_,e8.2.1,e8.1⟩
    ·exact recap I8
    ·obtain⟨o,e,d⟩:=T.obj _ _ st5 b hb;exact(I8.pin (b,o) (xAb _ (xAb _ (zbb hb e)))).2.1
   cases b with
   |false=>
    obtain⟨m',hm,w7⟩:=hN _ _ q7;obtain⟨J,t7,f7,d7,e7⟩:=again I7;exact⟨m',hm,i+1,vs,us,k,H7,J.pins_of (λp hp=>nomatch hp),t7,f7,d7,e7,rv3,z3,w7⟩
   |true=>
    simp only[if_true]at q7 ⊢;refine thn (he C fp s2 H2 _ s7 σ6 H7 _ I7 q7) λy s8 ⟨yv,H8,I8,r8,q8⟩=>?_
    obtain⟨m',hm,w8⟩:=hN _ _ q8;obtain⟨J,t8,f8,d8,e8⟩:=again I8;refine call_meets F.slot_list_append ⟨_,e8,rfl⟩ F.entry_list_append (F.args_list_append_2 _ _) (PySem.list_append D us.toArray k y (by rw[xA5,<-rv3.length];exact z3)) ⟨e8,?_⟩;have q:=PySem.IsL.update e8 (·.push y);have J0:Inv X' [] (capσ tg.length ci σ) H8 s8:=J.pins_of (λp hp=>nomatch hp);refine⟨m',hm,i+1,vs++[yv],us++[y],_,H8,J0.turned (it:=D) (t':=s8.toks) (λb o hb hu=>(xAK s8.heap _ (Ne.symm hb)).trans hu) d8 hDC (.inr (by show s2.heap.objs.size<=D;omega)) hDcell (λp hp=>absurd (show p∈([]:List (Addr×Obj)) from hp) (by simp)),?_,f8,d8,by simpa using q,rv3.append (.cons r8 .nil),by simp;omega,w8⟩;exact T.keep _ _ _ t8 λb hb o hu=>(xAK s8.heap _ (λz=>hDfp (by rw[z];exact hb))).trans hu
 exact codeAny_compStart_list (loop _) (T.self X.A 0 _ _ _ (T.keep _ _ _ st2 (λb hb o e=>old b o e)) (loop _))
theorem Gone.turned{pins:List (Addr×Obj)}{σ:St}{H:Hp}{s:Shared}{C:Addr}{h':Heap}(G:Gone X pins H s C)(I:Inv X pins σ H s)(hs:Heap.SameBut C s.heap h'):Inv X pins σ H { s with heap:=h' } :=
 I.turned (t':=s.toks) (λb o hb e=>hs.extBut b o hb e) G.free G.ne (.inr G.ab) G.cells G.pins
theorem zaI{elt target iter:Expr}{ifs:List Expr}{scope:Scope}{pos:Pos}{tg cp:List Str}{ci:List Nat}{wi:TI}{g:TG}{ti:TT}{te:TE}
  (S:CSc X.N X.env.scope tg cp ci scope) (hcalm:X.calm=true) (hi:PI X target iter wi)
  (hg:∀cl C fp s H,PG (cxC X (tg++cp) scope cl C fp s H) target g) (ht:∀cl C fp s H,PIfs (cxC X (tg++cp) scope cl C fp s H) ifs ti) (he:∀cl C fp s H,PE (cxC X (tg++cp) scope cl C fp s H) elt te)
  (hs:∀x,foldedSetIterable iter X.env x=pure x:=by intro _;rfl):PE X (.ListComp elt [⟨target,iter,ifs,0⟩] scope pos) (zhP wi tg.length ci g ti te):=by
 intro pins s σ H Q I h;obtain⟨cl,hclos,h1,h2⟩:=ybd (scope:=scope) (env:=X.env) λx hx hf=>I.ok.has x.1 (S.free x hx hf)
 rw[eval_ListComp];refine wpAny_comprehension_free (use:=none) rfl hs hclos S.kind S.loc (thn (zeT S hcalm hi h1 h2 (hg cl) (ht cl) (he cl) I h) λx s1 q1=>thn q1 λit s2 q2=>thn q2 λacc s3 q3=>thn q3 λcenv s4 q4=>codeAny_mono q4 λr s' q=>?_);obtain⟨D,vs,H',e1,e2,I',f,G,q⟩:=q;subst e1 e2;obtain⟨m,hn⟩:=G.ns;exact⟨m,hn,λh' hsb=>⟨.ref D,_,G.turned I' hsb,rfl,q D f⟩⟩
theorem ych{i:Nat}{y:Str}{py:Pos}{elt target iter:Expr}{ifs:List Expr}{scope:Scope}{pos spos:Pos}{tg cp:List Str}{ci:List Nat}{wi:TI}{g:TG}{ti:TT}{te:TE}
  (hN:X.N.Nodup) (hi':X.N[i]?=some y) (hy:Loc X.env.scope y)
  (S:CSc X.N X.env.scope tg cp ci scope) (hcalm:X.calm=true) (hi:PI X target iter wi)
  (hg:∀cl C fp s H,PG (cxC X (tg++cp) scope cl C fp s H) target g) (ht:∀cl C fp s H,PIfs (cxC X (tg++cp) scope cl C fp s H) ifs ti) (he:∀cl C fp s H,PE (cxC X (tg++cp) scope cl C fp s H) elt te)
  (hsw:swapsWith (.ListComp elt [⟨target,iter,ifs,0⟩] scope pos) (some (.Name y py)) spos.line X.env=pure true:=by rfl)
  (hs:∀x,foldedSetIterable iter X.env x=pure x:=by intro _;rfl) (hf:X.fn y=true\/X.env.scope.names.lookup y=some .local:=by first|exact .inl rfl|exact .inr rfl|assumption) :
  PS X (.Assign [.Name y py] (.ListComp elt [⟨target,iter,ifs,0⟩] scope pos) spos) (tAsg (zhP wi tg.length ci g ti te) (yaw i)):=by
 intro pins s σ H D I h;obtain⟨cl,hclos,h1,h2⟩:=ybd (scope:=scope) (env:=X.env) λx hx hf=>I.ok.has x.1 (S.free x hx hf)
 rw[exec_Assign_Name_used _ _ _ _ hsw];refine xA0 (wpAny_standAt (xA0 ?_));show wpAny _ X.A (do let _ <-comprehension (.ListComp elt [⟨target,iter,ifs,0⟩] scope pos) scope X.env _ (newList []) false (eval iter X.env) (some (assign (.Name y py) X.env))) _ _ s;refine xA0 (xAQ (wpAny_comprehension_free (use:=some (assign (.Name y py) X.env)) (Q:=λ_ s'=>SP X pins D .next s') rfl hs hclos S.kind S.loc
  (thn (zeT S hcalm hi h1 h2 (hg cl) (ht cl) (he cl) I h) λx s1 q1=>thn q1 λit s2 q2=>thn q2 λacc s3 q3=>thn q3 λcenv s4 q4=>codeAny_mono q4 λr s' q=>?_)) (λ_ s' hq=>xA3 (xA3 hq)) λ_ _ e=>e)
 obtain⟨D',vs,H',e1,e2,I',f,G,q⟩:=q;subst e1 e2;show wpAny _ X.A (assign (.Name y py) X.env (.ref D')) _ _ _;obtain⟨m,o,es,ep,ho,hd,hk⟩:=G.ns;have pin:Inv X ((cenv.locals,o)::pins) σ (upd H' D' (.lst vs)) s':=I'.pins_of λp hp=>by
  rcases xAa.mp hp with z|z
  ·subst z;exact⟨ho,G.free,G.ne,G.nofs,λv z=>by rw[hd]at z;cases z⟩
  ·exact I'.pin p (xAb _ z)
 refine wpAny_assign_Name (ya1 (v:=V.ref D') pin hN hi' hy (show RelV (.ref D') (.ref D') from rfl) (λs2 I2=>?_) hf);have I3:Inv X pins (σ.set i (some (.ref D'))) (upd H' D' (.lst vs)) s2:=I2.pins_of λp hp=>I2.pin p (xAb _ (xAd _ hp))
 have e2:=I2.pin (cenv.locals,o) (xAb _ xAf);have G2:Gone X pins (upd H' D' (.lst vs)) s2 cenv.locals:=⟨⟨m,o,es,ep,e2.1,hd,hk⟩,G.free,G.ne,G.ab,G.cells,G.pins,G.nofs⟩
 exact⟨m,⟨o,es,ep,e2.1,hd,hk⟩,λh' hsb=>⟨_,_,G2.turned I3 hsb,q D' f⟩⟩
end
end L2
end
section
-- text: ExtB
namespace L2
open PySem PySem.Spec PyProof.Rows
structure zdH(P:Program)(w:World)(A:Around)(a:Addr)(dep:List Addr)(ok:Nat->Heap->Prop)(val:Nat->Option Value):Prop where
 mem:a∈dep
 obj:∀k h,ok k h->∃o,h.get? a=some o/\(∀v,o.data≠.cell v)/\o.cls≠.type "zip"/\o.cls≠.type "enumerate"/\o.cls≠.type "tuple"
 keep:∀k h h',ok k h->(∀b∈dep,∀o,h.get? b=some o->h'.get? b=some o)->ok k h'
 item:∀k x (s:Shared) (Q:Value->Shared->Prop) (E:Value->Shared->Prop),ok k s.heap->val k=some x->(∀h',ok (k+1) h'->Heap.SameBut a s.heap h'->Q x { s with heap:=h' })->
  wpAny (model P w) A (Builtin.SmallTypes.nextOf (.ref a)) Q E s
 stop:∀k (s:Shared) (Q:Value->Shared->Prop) (E:Value->Shared->Prop),ok k s.heap->val k=none->
  (∀h' e,Heap.ExtBut a s.heap h'->(∃o,h'.get? e=some o/\o.cls = .type "StopIteration")->E (.ref e) { s with heap:=h' })->wpAny (model P w) A (Builtin.SmallTypes.nextOf (.ref a)) Q E s
section
variable {P:Program} {w:World} {A:Around}
theorem zhQ{a l:Addr}{xs:Array Value}(hh:A.handled=none)(ne:l≠a):zdH P w A a [a,l] (λk h=>h.IsListIter a l k/\h.IsList l xs) (λk=>xs[k]?) where
 mem:=xAf
 obj:=λk h z=>by
  obtain⟨⟨o,e,c,d⟩,_⟩:=z;exact⟨o,e,λv q=>(by rw[d]at q;cases q),(by rw[c];decide),(by rw[c];decide),(by rw[c];decide)⟩
 keep:=λk h h' z q=>⟨z.1.at λo e=>q a (by simp) o e,z.2.at λo e=>q l (by simp) o e⟩
 item:=λk x s Q E z e q=>wpAny_nextOf_list_item z.1 z.2 e λh' h1 h2=>q h' ⟨h1,z.2.extBut h2.extBut ne⟩ h2
 stop:=λk s Q E z e q=>wpAny_nextOf_list_end hh z.1 z.2 e q
theorem zdn{h h':Heap}{a l:Addr}{k:Nat}(x:h.IsTupleIter a l k)(e:∀o,h.get? a=some o->h'.get? a=some o):h'.IsTupleIter a l k:=let ⟨o,ho,r⟩:=x;⟨o,e _ ho,r⟩
theorem yg4{h h':Heap}{a:Addr}{xs:Array Value}(x:h.IsTuple a xs)(e:∀o,h.get? a=some o->h'.get? a=some o):h'.IsTuple a xs:=let ⟨o,ho,r⟩:=x;⟨o,e _ ho,r⟩
theorem zh2{a l:Addr}{xs:Array Value}(hh:A.handled=none)(ne:l≠a):zdH P w A a [a,l] (λk h=>h.IsTupleIter a l k/\h.IsTuple l xs) (λk=>xs[k]?) where
 mem:=xAf
 obj:=λk h z=>by
  obtain⟨⟨o,e,c,d⟩,_⟩:=z;exact⟨o,e,λv q=>(by rw[d]at q;cases q),(by rw[c];decide),(by rw[c];decide),(by rw[c];decide)⟩
 keep:=λk h h' z q=>⟨zdn z.1 λo e=>q a (by simp) o e,yg4 z.2 λo e=>q l (by simp) o e⟩
 item:=λk x s Q E z e q=>by
  obtain⟨o,ho,hc,hd⟩:=id z.1;obtain⟨ol,hol,_,nl,hdl⟩:=id z.2;unfold Builtin.SmallTypes.nextOf;refine xA0 (xAA (name:=Str.ofString "__next__") z.1.typeIs F.slot_tuple_iterator_next (xAF F.slot_tuple_iterator_next z.1.typeIs F.entry_tuple_iterator_next ?_ (F.args_tuple_iterator_next_1 _)));show wpAny _ _ (field (.ref a) 0 >>= _) _ _ s;refine xA0 (xAU ho hd (x:=.ref l) rfl ?_);show wpAny _ _ (if (Value.ref l==Value.none)=true then _ else _) _ _ s;rw[if_neg (show ¬ ((Value.ref l==Value.none)=true) from xAj)];show wpAny _ _ (field (.ref a) 1 >>= _) _ _ s;refine xA0 (xAU ho hd (x:=.int k 0) rfl ?_);show wpAny _ _ (seqItems? (.ref l) >>= _) _ _ s;refine xA0 (wpAny_seqItems hol hdl ?_);simp only[xAm,e];refine xA0 (xBs ho hd (by simp) (xA3 ⟨x,rfl,xA3 (q _ ⟨?_,z.2.extBut (xBj ..).extBut ne⟩ (xBj ..))⟩));exact⟨_,xAY _ ho (Obj.isFreed_of_fields (xAI hd _)),(Obj.cls_mapFields ..).trans hc,by rw[xAI hd];simp[rawInt]⟩
 stop:=λk s Q E z e q=>by
  obtain⟨o,ho,hc,hd⟩:=id z.1;obtain⟨ol,hol,_,nl,hdl⟩:=id z.2;unfold Builtin.SmallTypes.nextOf;refine xA0 (xAA (name:=Str.ofString "__next__") z.1.typeIs F.slot_tuple_iterator_next (xAF F.slot_tuple_iterator_next z.1.typeIs F.entry_tuple_iterator_next ?_ (F.args_tuple_iterator_next_1 _)));show wpAny _ _ (field (.ref a) 0 >>= _) _ _ s;refine xA0 (xAU ho hd (x:=.ref l) rfl ?_);show wpAny _ _ (if (Value.ref l==Value.none)=true then _ else _) _ _ s;rw[if_neg (show ¬ ((Value.ref l==Value.none)=true) from xAj)];show wpAny _ _ (field (.ref a) 1 >>= _) _ _ s;refine xA0 (xAU ho hd (x:=.int k 0) rfl ?_);show wpAny _ _ (seqItems? (.ref l) >>= _) _ _ s;refine xA0 (wpAny_seqItems hol hdl ?_);simp only[xAm,e];refine xA0 (xBc (xA0 (xBs ho hd (by simp) ?_)));show wpAny _ _ (newExc (.type "StopIteration") [] >>= _) _ _ _;refine xA0 ?_;simp only[newExc,newTuple];refine xA0 (xAs ?_ (by size_fits));refine xA0 (m:=firstArgMember _ _) (xBf (a:=Value.none) (by first|rfl|(simp only[firstArgMember];rfl)) (xAs ?_ (by size_fits)));simp only[raiseNew];refine xA0 (wpAny_handled ?_)
  first|rw[show A.in1.handled=none from hh]|rw[hh]
  exact xA0 (xA3 (wpAny_throw (q _ _ (((xBj ..).extBut.push _).push _) ⟨_,xA6 _ rfl,rfl⟩)))
end
structure ZAp(z TI TO:Addr)(d1 d2:List Addr)(i1 i2:Addr):Prop where
 a1:TI≠z
 a2:TO≠z
 a3:TI≠TO
 b1:z∉d1
 b2:z∉d2
 b3:TO∉d1
 b4:TO∉d2
 b5:TI≠i1
 b6:TI≠i2
 c1:i1∉d2
 c2:i2∉d1
section
variable {P:Program} {w:World} {A:Around} {s:Shared} {z TI TO i1 i2:Addr} {d1 d2:List Addr} {ok1 ok2:Nat->Heap->Prop} {v1 v2:Nat->Option Value}
theorem zdH.ext(S:zdH P w A i1 d1 ok1 v1){k:Nat}{h h':Heap}{b:Addr}(o:ok1 k h)(e:Heap.ExtBut b h h')(n:b∉d1):ok1 k h':=S.keep k h h' o λc hc ob eb=>e c ob (λq=>n (q ▸ hc)) eb
theorem yfF{k:Nat}{x y p q:Value}{Q:Value->Shared->Prop}{E:Value->Shared->Prop}(D:ZAp z TI TO d1 d2 i1 i2)(S1:zdH P w A i1 d1 ok1 v1)(S2:zdH P w A i2 d2 ok2 v2)
  (hz:IsZip s.heap z TI TO .none) (hI:IsPair s.heap TI (.ref i1) (.ref i2)) (hO:IsPair s.heap TO p q) (o1:ok1 k s.heap) (o2:ok2 k s.heap) (e1:v1 k=some x) (e2:v2 k=some y)
  (hQ:∀g,IsZip g z TI TO (rawInt s.heap.objs.size)->IsPair g TO x y->ok1 (k+1) g->ok2 (k+1) g->IsPair g s.heap.objs.size x y->(∀c o,c≠z->c≠TO->c≠i1->c≠i2->s.heap.get? c=some o->g.get? c=some o)->Q (.ref s.heap.objs.size) { s with heap:=g }) :
  wpAny (model P w) A (Builtin.«zip.__next__» ⟨[.ref z],[]⟩) (λfin s'=>∃v,fin = .done (.ret v)/\Q v s') E s:=by
 have n1z:i1≠z:=λe=>D.b1 (e ▸ S1.mem)
 have n2z:i2≠z:=λe=>D.b2 (e ▸ S2.mem)
 have n1O:i1≠TO:=λe=>D.b3 (e ▸ S1.mem)
 have n2O:i2≠TO:=λe=>D.b4 (e ▸ S2.mem)
 show wpAny _ _ (field (.ref z) 2 >>= _) _ E s;refine xA0 (xAU hz rfl (x:=.bool false) rfl ?_);show wpAny _ _ (field (.ref z) 3 >>= _) _ E s;refine xA0 (xAU hz rfl (x:=.ref TI) rfl (xA0 (wpAny_seqItems hI rfl ?_)));show wpAny _ _ (Builtin.SmallTypes.ownedTupleIsFree (.ref z) >>= _) _ E s;refine xA0 ?_;unfold Builtin.SmallTypes.ownedTupleIsFree;refine xA0 (xAU hz rfl (x:=.none) rfl (xA3 ?_));simp only[if_true];refine xA0 (xBc (xA0 (xAU hz rfl (x:=.ref TO) rfl (xA0 (wpAny_setField_rec hz (by simp) λg1 hz1 t1=>?_)))))
 replace hz1:IsZip g1 z TI TO .ellipsis:=hz1
 refine xA0 ?_;simp only[List.zipIdx_cons,List.zipIdx_nil,List.forIn_cons,List.forIn_nil];refine xA0 (xA0 (wpAny_onRaise ?_));show wpAny _ _ (Builtin.SmallTypes.nextOf (.ref i1) >>= _) _ _ _;refine(xA0 (S1.item k x _ _ _ (S1.ext o1 t1.extBut D.b1) e1 λg2 o12 t2=>xA3 ?_));have hO2:IsPair g2 TO p q:=t2.extBut _ _ (Ne.symm n1O) (t1.extBut _ _ D.a2 hO);refine xA0 (wpAny_seqItems hO2 rfl (xA0 (wpAny_updateSeq_pair hO2 λg3 hO3 t3=>?_)))
 replace hO3:IsPair g3 TO x q:=hO3
 refine xA0 (wpAny_letGo (xA3 ?_));have o23:ok2 k g3:=S2.ext (S2.ext (S2.ext o2 t1.extBut D.b2) t2.extBut D.c1) t3.extBut D.b4;refine xA0 (xA0 (wpAny_onRaise ?_));show wpAny _ _ (Builtin.SmallTypes.nextOf (.ref i2) >>= _) _ _ _;refine(xA0 (S2.item k y _ _ _ o23 e2 λg4 o24 t4=>xA3 ?_));have hO4:IsPair g4 TO x q:=t4.extBut _ _ (Ne.symm n2O) hO3;refine xA0 (wpAny_seqItems hO4 rfl (xA0 (wpAny_updateSeq_pair hO4 λg5 hO5 t5=>?_)))
 replace hO5:IsPair g5 TO x y:=hO5
 refine xA0 (wpAny_letGo (xA3 (xA3 ?_)));refine xA0 (wpAny_seqItems hO5 rfl (xA0 (wpAny_newTuple ?_)));have sz:g5.objs.size=s.heap.objs.size:=by rw[t5.1,t4.1,t3.1,t2.1,t1.1]
 have hz5:IsZip g5 z TI TO .ellipsis:=t5.extBut _ _ (Ne.symm D.a2) (t4.extBut _ _ (Ne.symm n2z) (t3.extBut _ _ (Ne.symm D.a2) (t2.extBut _ _ (Ne.symm n1z) hz1)));have k5:∀c o,c≠z->c≠TO->c≠i1->c≠i2->s.heap.get? c=some o->g5.get? c=some o:=λc o m1 m2 m3 m4 e=>t5.extBut _ _ m2 (t4.extBut _ _ m4 (t3.extBut _ _ m2 (t2.extBut _ _ m3 (t1.extBut _ _ m1 e))))
 have o15:ok1 (k+1) g5:=S1.ext (S1.ext (S1.ext o12 t3.extBut D.b3) t4.extBut D.c2) t5.extBut D.b3;have o25:ok2 (k+1) g5:=S2.ext o24 t5.extBut D.b4;have zlt:z<g5.objs.size:=xAc hz5;show wpAny _ _ (Builtin.SmallTypes.ownedTupleHandOut (.ref z) (.ref g5.objs.size) >>= _) _ E _;refine xA0 ?_;unfold Builtin.SmallTypes.ownedTupleHandOut;have hz6:IsZip (g5.push { cls:=.type "tuple",data:=.seq #[x,y] }) z TI TO .ellipsis:=xA2 _ hz5;refine xA0 (wpAny_setField_rec hz6 (by simp) λg7 hz7 t7=>?_)
 replace hz7:IsZip g7 z TI TO (rawInt g5.objs.size):=hz7
 refine wpAny_setField_rec hz7 (by simp) λg8 hz8 t8=>?_
 replace hz8:IsZip g8 z TI TO (rawInt g5.objs.size):=hz8
 have up:∀c o,c≠z->g5.get? c=some o->g8.get? c=some o:=λc o m e=>t8.extBut _ _ m (t7.extBut _ _ m (xA2 _ e))
 have hT8:IsPair g8 g5.objs.size x y:=t8.extBut _ _ (Nat.ne_of_gt zlt) (t7.extBut _ _ (Nat.ne_of_gt zlt) (xA6 _ rfl));rw[sz]at hz8 hT8;refine xA3 ⟨_,rfl,?_⟩;show Q (.ref g5.objs.size) _;rw[sz];exact hQ g8 hz8 (up _ _ D.a2 hO5) (S1.keep _ _ _ o15 λb hb o e=>up b o (λq=>D.b1 (q ▸ hb)) e) (S2.keep _ _ _ o25 λb hb o e=>up b o (λq=>D.b2 (q ▸ hb)) e) hT8 λc o m1 m2 m3 m4 e=>up c o m1 (k5 c o m1 m2 m3 m4 e)
theorem ygS{k:Nat}{p q:Value}{Q:Fin->Shared->Prop}{E:Value->Shared->Prop}(D:ZAp z TI TO d1 d2 i1 i2)(S1:zdH P w A i1 d1 ok1 v1)(S2:zdH P w A i2 d2 ok2 v2)
  (hz:IsZip s.heap z TI TO .none) (hI:IsPair s.heap TI (.ref i1) (.ref i2)) (hO:IsPair s.heap TO p q) (o1:ok1 k s.heap) (o2:ok2 k s.heap) (he:v1 k=none\/v2 k=none)
  (hE:∀g e,(∀c o,c≠z->c≠TO->c≠i1->c≠i2->s.heap.get? c=some o->g.get? c=some o)->(∃o,g.get? e=some o/\o.cls = .type "StopIteration")->E (.ref e) { s with heap:=g }) :
  wpAny (model P w) A (Builtin.«zip.__next__» ⟨[.ref z],[]⟩) Q E s:=by
 have n1z:i1≠z:=λe=>D.b1 (e ▸ S1.mem)
 have n2z:i2≠z:=λe=>D.b2 (e ▸ S2.mem)
 have n1O:i1≠TO:=λe=>D.b3 (e ▸ S1.mem)
 show wpAny _ _ (field (.ref z) 2 >>= _) _ E s;refine xA0 (xAU hz rfl (x:=.bool false) rfl ?_);show wpAny _ _ (field (.ref z) 3 >>= _) _ E s;refine xA0 (xAU hz rfl (x:=.ref TI) rfl (xA0 (wpAny_seqItems hI rfl ?_)));show wpAny _ _ (Builtin.SmallTypes.ownedTupleIsFree (.ref z) >>= _) _ E s;refine xA0 ?_;unfold Builtin.SmallTypes.ownedTupleIsFree;refine xA0 (xAU hz rfl (x:=.none) rfl (xA3 ?_));simp only[if_true];refine xA0 (xBc (xA0 (xAU hz rfl (x:=.ref TO) rfl (xA0 (wpAny_setField_rec hz (by simp) λg1 hz1 t1=>?_)))))
 replace hz1:IsZip g1 z TI TO .ellipsis:=hz1
 refine xA0 ?_;simp only[List.zipIdx_cons,List.zipIdx_nil,List.forIn_cons,List.forIn_nil];have o11:ok1 k g1:=S1.ext o1 t1.extBut D.b1;cases e1:v1 k with
 |none=>
  refine xA0 (xA0 (wpAny_onRaise ?_));show wpAny _ _ (Builtin.SmallTypes.nextOf (.ref i1) >>= _) _ _ _;refine(xA0 (S1.stop k _ _ _ o11 e1 λg2 e t2 ⟨oe,he',ce⟩=>?_));have hz2:IsZip g2 z TI TO .ellipsis:=t2 _ _ (Ne.symm n1z) hz1;have ez:e≠z:=λq=>by subst q;rw[hz2]at he';cases he';simp at ce
  exact wpAny_setField_rec hz2 (by simp) λg3 _ t3=>hE g3 e (λc o m1 _ m3 _ x=>t3.extBut _ _ m1 (t2 _ _ m3 (t1.extBut _ _ m1 x))) ⟨oe,t3.extBut _ _ ez he',ce⟩
 |some x=>
  have e2:v2 k=none:=by rcases he with h|h;rw[e1]at h;cases h;exact h
  refine xA0 (xA0 (wpAny_onRaise ?_));show wpAny _ _ (Builtin.SmallTypes.nextOf (.ref i1) >>= _) _ _ _;refine(xA0 (S1.item k x _ _ _ o11 e1 λg2 o12 t2=>xA3 ?_));have hO2:IsPair g2 TO p q:=t2.extBut _ _ (Ne.symm n1O) (t1.extBut _ _ D.a2 hO);refine xA0 (wpAny_seqItems hO2 rfl (xA0 (wpAny_updateSeq_pair hO2 λg3 hO3 t3=>?_)));refine xA0 (wpAny_letGo (xA3 ?_));have o23:ok2 k g3:=S2.ext (S2.ext (S2.ext o2 t1.extBut D.b2) t2.extBut D.c1) t3.extBut D.b4;refine xA0 (xA0 (wpAny_onRaise ?_));show wpAny _ _ (Builtin.SmallTypes.nextOf (.ref i2) >>= _) _ _ _;refine(xA0 (S2.stop k _ _ _ o23 e2 λg4 e t4 ⟨oe,he',ce⟩=>?_));have hz4:IsZip g4 z TI TO .ellipsis:=t4 _ _ (Ne.symm n2z) (t3.extBut _ _ (Ne.symm D.a2) (t2.extBut _ _ (Ne.symm n1z) hz1));have ez:e≠z:=λq=>by subst q;rw[hz4]at he';cases he';simp at ce
  exact wpAny_setField_rec hz4 (by simp) λg5 _ t5=>hE g5 e (λc o m1 m2 m3 m4 x=>t5.extBut _ _ m1 (t4 _ _ m4 (t3.extBut _ _ m2 (t2.extBut _ _ m3 (t1.extBut _ _ m1 x))))) ⟨oe,t5.extBut _ _ ez he',ce⟩
end
end L2
end
section
-- text: ExtC
namespace L2
open PySem PySem.Spec PyProof.Rows
noncomputable def SqB(K:PySem.W.Frag):Bool->Hp->Addr->List V->Prop
 |true=>λH a xs=>SqT K H a xs
 |false=>λH a xs=>SqL K H a xs
noncomputable def ybs:Bool->Heap->Addr->Array Value->Prop
 |true=>λh a xs=>h.IsTuple a xs
 |false=>λh a xs=>h.IsList a xs
noncomputable def zdx:Bool->Heap->Addr->Addr->Nat->Prop
 |true=>λh a l k=>h.IsTupleIter a l k
 |false=>λh a l k=>h.IsListIter a l k
noncomputable def yat(b:Bool)(l:Addr):Obj:={ cls:=.type (if b then "tuple_iterator" else "list_iterator"),data:=.fields #[.ref l,.int 0 0] }
theorem zcK(b:Bool)(h:Heap)(l:Addr)(a:Addr)(e:h.get? a=some (yat b l)):zdx b h a l 0:=by cases b <;> exact⟨_,e,rfl,rfl⟩
theorem zbS{b:Bool}{h h':Heap}{a l:Addr}{k:Nat}(x:zdx b h a l k)(e:∀o,h.get? a=some o->h'.get? a=some o):zdx b h' a l k:=by
 cases b
 ·exact Heap.IsListIter.at x e
 ·exact zdn x e
theorem ygo{b:Bool}{h h':Heap}{a:Addr}{xs:Array Value}(x:ybs b h a xs)(e:∀o,h.get? a=some o->h'.get? a=some o):ybs b h' a xs:=by
 cases b
 ·exact Heap.IsList.at x e
 ·exact yg4 x e
theorem subB{P:Program}{w:World}{A:Around}(b:Bool){a l:Addr}{xs:Array Value}(hh:A.handled=none)(ne:l≠a):zdH P w A a [a,l] (λk h=>zdx b h a l k/\ybs b h l xs) (λk=>xs[k]?):=by
 cases b
 ·exact zhQ hh ne
 ·exact zh2 hh ne
theorem ya3{b:Bool}{h:Heap}{a l:Addr}{k:Nat}(x:zdx b h a l k):∃o,h.get? a=some o/\(∀v,o.data≠.cell v)/\(o.cls = .type "tuple_iterator"\/o.cls = .type "list_iterator"):=by
 cases b <;> obtain⟨o,e,c,d⟩:=x
 ·exact⟨o,e,λv q=>(by rw[d]at q;cases q),.inr c⟩
 ·exact⟨o,e,λv q=>(by rw[d]at q;cases q),.inl c⟩
theorem ydo{b:Bool}{h:Heap}{a:Addr}{xs:Array Value}(x:ybs b h a xs):∃o,h.get? a=some o/\(o.cls = .type "tuple"\/o.cls = .type "list"):=by
 cases b <;> obtain⟨o,e,c,d⟩:=x
 ·exact⟨o,e,.inr c⟩
 ·exact⟨o,e,.inl c⟩
theorem zcG{P:Program}{w:World}{A:Around}{E:Value->Shared->Prop}{s:Shared}{b:Bool}{t:Addr}{items:Array Value}{Q:Value->Shared->Prop}(ht:ybs b s.heap t items)
  (hQ:Q (.ref s.heap.objs.size) { s with heap:=s.heap.push (yat b t) }):wpAny (model P w) A (pyIter (.ref t)) Q E s:=by
 cases b
 ·exact wpAny_pyIter_list ht hQ
 ·exact wpAny_pyIter_tuple ht hQ
section
variable {X:Cx} {pins:List (Addr×Obj)} {σ:St} {H:Hp} {s:Shared}
theorem Inv.seqB{b:Bool}{a:Addr}{xs:List V}(I:Inv X pins σ H s)(h:SqB X.K b H a xs):∃its:List Value,Vals xs its/\ybs b s.heap a its.toArray/\xs.length<=sizeLine:=by
 cases b
 ·obtain⟨its,r,p,z⟩:=I.list h;exact⟨its,r,p.isList,z⟩
 ·obtain⟨its,r,p,z⟩:=I.tuple h;exact⟨its,r,p,z⟩
theorem Inv.seqB_inj{b:Bool}{a:Addr}{xs ys:List V}(I:Inv X pins σ H s)(h:SqB X.K b H a xs)(h':SqB X.K b H a ys):xs=ys:=by
 cases b
 ·exact I.list_inj h h'
 ·exact I.tuple_inj h h'
theorem Inv.turnedT{fp:List Addr}{h':Heap}{t':Nat}{T:Addr}{xs:List V}{its:Array Value}(I:Inv X pins σ H s)(hf:∀b∈fp,FpOk X pins H b)(k:∀b o,b∉fp->s.heap.get? b=some o->h'.get? b=some o)
  (hp:s.heap.objs.size<=T) (z:xs.length<=sizeLine) (r:Vals xs its.toList) (new:h'.IsTuple T its):Inv X pins σ (upd H T (.tup xs)) { s with heap:=h',toks:=t' }:=by
 have fT:H T=none:=I.hok.fresh hp;have nT:∀b o,s.heap.get? b=some o->b≠T:=λb o e q=>by
  have l1:s.heap.objs.size>=Nat.succ b:=xAc e;have l2:@Eq Nat b T:=q;omega
 have nfp:∀b u,H b=some u->b∉fp:=λb u e q=>by rw[(hf b q).1]at e;cases e
 refine I.step (g':=s.gens) (d':=s.drawn) (ch:=fp) (λb hb=>⟨(hf b hb).2.2.2.1,(hf b hb).2.1,(hf b hb).2.2.2.2.1,(hf b hb).2.2.2.2.2⟩) (λb o _ _ hc e _=>k b o hc e) (λb o _ _ hc e _=>⟨o.slots,k b o hc e⟩)
  (λb o _ e n=>by rw[zah (nT b o e)];exact n) (λb o hc e=>⟨o,k b o hc e⟩) (λb ys e=>by rw[zah (zaf e fT)];exact e) (λb o u e=>by rw[zah (zaf e fT)];exact e)
  (λb ps e=>⟨(List.toArray []),by rw[zah (zaf e fT),e];simp⟩) (λm hm=>?_) (λb u e=>?_) I.bare
 ·obtain⟨o,es,ep,ho,q⟩:=hm;exact⟨o,es,ep,k _ o (λhb=>(hf _ hb).2.1 rfl) ho,q⟩
 ·by_cases hb:b=T
  ·subst hb;rw[yab]at e;cases e;have q:IsTup h' b its:=new;exact⟨z,its.toList,r,by simpa using q⟩
  ·rw[zah hb]at e;refine(I.hok b u e).stay (λc v hc q=>k c v ?_ q) (λc q=>?_) λc ys q=>?_
   ·rcases hc with hc|hc
    ·rw[hc];exact nfp b u e
    ·exact nfp c _ hc
   ·rw[zah (zaf q fT)];exact q
   ·rw[zah (zaf q fT)];exact q
theorem Inv.turnedL{fp:List Addr}{h':Heap}{t':Nat}(I:Inv X pins σ H s)(hf:∀b∈fp,FpOk X pins H b)(k:∀b o,b∉fp->s.heap.get? b=some o->h'.get? b=some o):Inv X pins σ H { s with heap:=h',toks:=t' }:=by
 have nfp:∀b u,H b=some u->b∉fp:=λb u e q=>by rw[(hf b q).1]at e;cases e
 refine I.step (g':=s.gens) (d':=s.drawn) (ch:=fp) (λb hb=>⟨(hf b hb).2.2.2.1,(hf b hb).2.1,(hf b hb).2.2.2.2.1,(hf b hb).2.2.2.2.2⟩) (λb o _ _ hc e _=>k b o hc e) (λb o _ _ hc e _=>⟨o.slots,k b o hc e⟩)
  (λb o _ e n=>n) (λb o hc e=>⟨o,k b o hc e⟩) (λb ys e=>e) (λb o u e=>e) (λb ps e=>⟨(List.toArray []),by rw[e];simp⟩) (λm hm=>?_) (λb u e=>?_) I.bare
 ·obtain⟨o,es,ep,ho,q⟩:=hm;exact⟨o,es,ep,k _ o (λhb=>(hf _ hb).2.1 rfl) ho,q⟩
 ·refine(I.hok b u e).stay (λc v hc q=>k c v ?_ q) (λc q=>q) λc ys q=>q
  rcases hc with hc|hc
  ·rw[hc];exact nfp b u e
  ·exact nfp c _ hc
end
noncomputable def Itz(K:PySem.W.Frag)(b1 b2:Bool)(l1 l2:Addr):It :=
 ⟨λi H=>∃xs ys x y,SqB K b1 H l1 xs/\SqB K b2 H l2 ys/\xs[i]?=some x/\ys[i]?=some y,
  λi H v H'=>∃T x y,v = .ref T/\H T=none/\H'=upd H T (.tup [x,y])/\(∀xs,SqB K b1 H l1 xs->xs[i]?=some x)/\(∀ys,SqB K b2 H l2 ys->ys[i]?=some y),
  λi H=>∃xs ys,SqB K b1 H l1 xs/\SqB K b2 H l2 ys/\(xs.length<=i\/ys.length<=i)⟩
structure ZSt(b1 b2:Bool)(z TI TO i1 i2 l1 l2:Addr)(k:Nat)(h:Heap):Prop where
 zip:IsZip h z TI TO .none
 ti:IsPair h TI (.ref i1) (.ref i2)
 to:∃a b,IsPair h TO a b
 it1:zdx b1 h i1 l1 k
 it2:zdx b2 h i2 l2 k
theorem ya4{h:Heap}{a b:Addr}{o u:Obj}{x y:String}(e:h.get? a=some o)(e':h.get? b=some u)(ca:o.cls = .type x)(cb:u.cls = .type y)(n:x≠y:=by decide):a≠b:=λq=>by
 subst q;rw[e]at e';cases e';rw[ca]at cb;injection cb with cb;exact n cb
theorem Inv.sq_ne{X:Cx}{pins:List (Addr×Obj)}{σ:St}{H:Hp}{s:Shared}{b:Bool}{l c:Addr}{xs:List V}(I:Inv X pins σ H s)(h:SqB X.K b H l xs)(f:FpOk X pins H c):l≠c:=by
 have key:(∃u,H l=some u)\/∃o,X.K.lookup l=some o:=by
  cases b
  ·rcases h with(h |⟨o,h⟩) |⟨o,_,_,h,_⟩
   ·exact .inl ⟨_,h⟩
   ·exact .inl ⟨_,h⟩
   ·exact .inr ⟨o,h⟩
  ·rcases h with(h |⟨o,h⟩) |⟨o,_,_,h,_⟩
   ·exact .inl ⟨_,h⟩
   ·exact .inl ⟨_,h⟩
   ·exact .inr ⟨o,h⟩
 intro q;subst q;rcases key with⟨u,e⟩ |⟨o,e⟩
 ·rw[f.1]at e;cases e
 ·have eb:=I.ok.mod.kin l o e;rcases f.2.2.2.1 with z|z
  ·exact I.ok.noex l o eb z
  ·have l1:X.base.objs.size>=Nat.succ l:=xAc eb;have l2:X.base.objs.size<=X.s₀.heap.objs.size:=I.ok.bsz;have l3:X.s₀.heap.objs.size<=l:=z;omega
theorem zgJ{P:Program}{w:World}{K:PySem.W.Frag}{elts:List Expr}{kk:Nat}{tpos:Pos}(b1 b2:Bool)(z TI TO i1 i2 l1 l2:Addr)(nIO:TI≠TO)(n12:i1≠i2) :
  Turn P w K (.Tuple elts kk tpos) (Itz K b1 b2 l1 l2) [z,TI,TO,i1,i2] z (ZSt b1 b2 z TI TO i1 i2 l1 l2) where
 mem:=xAf
 obj:=λk h S b hb=>by
  obtain⟨p,q,hO⟩:=S.to;obtain⟨o1,e1,d1,_⟩:=ya3 S.it1;obtain⟨o2,e2,d2,_⟩:=ya3 S.it2;simp only[xAa,xAk,xB0]at hb;rcases hb with rfl|rfl|rfl|rfl|rfl
  ·exact⟨_,S.zip,λv q=>by cases q⟩
  ·exact⟨_,S.ti,λv q=>by cases q⟩
  ·exact⟨_,hO,λv q=>by cases q⟩
  ·exact⟨o1,e1,d1⟩
  ·exact⟨o2,e2,d2⟩
 keep:=λk h h' S q=>by
  obtain⟨p,r,hO⟩:=S.to;exact⟨q z (by simp) _ S.zip,q TI (by simp) _ S.ti,⟨p,r,q TO (by simp) _ hO⟩,zbS S.it1 λo e=>q i1 (by simp) o e,zbS S.it2 λo e=>q i2 (by simp) o e⟩
 item:=by
  intro X hP hw hK hc i pins s σ H E I hf S hg;subst hP hw hK;obtain⟨xs,ys,x,y,h1,h2,ex,ey⟩:=hg;obtain⟨us,r1,p1,z1⟩:=I.seqB h1;obtain⟨vs,r2,p2,z2⟩:=I.seqB h2;obtain⟨u,eu,ru⟩:=r1.get ex;obtain⟨v,ev,rv⟩:=r2.get ey;obtain⟨p,q,hO⟩:=S.to;obtain⟨o1,e1,_,c1⟩:=ya3 S.it1;obtain⟨o2,e2,_,c2⟩:=ya3 S.it2;obtain⟨q1,f1,g1⟩:=ydo p1;obtain⟨q2,f2,g2⟩:=ydo p2;have fz:∀b∈[z,TI,TO,i1,i2],H b=none:=λb hb=>(hf b hb).1
  have hh:X.A.handled=none:=I.ok.hd hc;have nl1:∀b∈[z,TI,TO,i1,i2],l1≠b:=λb hb=>I.sq_ne h1 (hf b hb)
  have nl2:∀b∈[z,TI,TO,i1,i2],l2≠b:=λb hb=>I.sq_ne h2 (hf b hb)
  have i1z:i1≠z:=by rcases c1 with c|c <;> exact ya4 e1 S.zip c rfl
  have i2z:i2≠z:=by rcases c2 with c|c <;> exact ya4 e2 S.zip c rfl
  have i1I:i1≠TI:=by rcases c1 with c|c <;> exact ya4 e1 S.ti c rfl
  have i2I:i2≠TI:=by rcases c2 with c|c <;> exact ya4 e2 S.ti c rfl
  have i1O:i1≠TO:=by rcases c1 with c|c <;> exact ya4 e1 hO c rfl
  have i2O:i2≠TO:=by rcases c2 with c|c <;> exact ya4 e2 hO c rfl
  have Iz:TI≠z:=ya4 S.ti S.zip rfl rfl;have Oz:TO≠z:=ya4 hO S.zip rfl rfl;have D:ZAp z TI TO [i1,l1] [i2,l2] i1 i2:=by
   refine⟨Iz,Oz,nIO,?_,?_,?_,?_,Ne.symm i1I,Ne.symm i2I,?_,?_⟩
   ·simp only[xAa,xAk,xB0,not_or];exact⟨Ne.symm i1z,Ne.symm (nl1 z (by simp))⟩
   ·simp only[xAa,xAk,xB0,not_or];exact⟨Ne.symm i2z,Ne.symm (nl2 z (by simp))⟩
   ·simp only[xAa,xAk,xB0,not_or];exact⟨Ne.symm i1O,Ne.symm (nl1 TO (by simp))⟩
   ·simp only[xAa,xAk,xB0,not_or];exact⟨Ne.symm i2O,Ne.symm (nl2 TO (by simp))⟩
   ·simp only[xAa,xAk,xB0,not_or];exact⟨n12,Ne.symm (nl2 i1 (by simp))⟩
   ·simp only[xAa,xAk,xB0,not_or];exact⟨Ne.symm n12,Ne.symm (nl1 i2 (by simp))⟩
  have hT:s.TypeIs (.ref z) "zip":=⟨_,S.zip,rfl⟩
  unfold pyNext;refine xA0 (xBr (xAA (name:=Str.ofString "__next__") hT F.slot_zip_next (xAF F.slot_zip_next hT F.entry_zip_next
   (yfF D (subB b1 (A:=X.A.in1) hh (nl1 i1 (by simp))) (subB b2 (A:=X.A.in1) hh (nl2 i2 (by simp))) S.zip S.ti hO ⟨S.it1,p1⟩ ⟨S.it2,p2⟩ (x:=u) (y:=v) (by simpa using eu) (by simpa using ev)
    λg a1 a2 a3 a4 a5 a6=>xA3 ?_) (F.args_zip_next_1 _))))
  refine⟨_,rfl,wpAny_letOwnedTupleGo_zip (s:={ s with heap:=g }) a1 λg' hz' t=>?_⟩;have lt:∀ {c:Addr} {o:Obj},s.heap.get? c=some o->s.heap.objs.size≠c:=λe=>Nat.ne_of_gt (xAc e)
  have k':∀b o,b∉[z,TI,TO,i1,i2]->s.heap.get? b=some o->g'.get? b=some o:=λb o hb e=>by
   simp only[xAa,xAk,xB0,not_or]at hb;exact t.extBut b o hb.1 (a6 b o hb.1 hb.2.2.1 hb.2.2.2.1 hb.2.2.2.2 e)
  have hTI':IsPair g' TI (.ref i1) (.ref i2):=t.extBut _ _ Iz (a6 _ _ Iz nIO (Ne.symm i1I) (Ne.symm i2I) S.ti);have hS':ZSt b1 b2 z TI TO i1 i2 l1 l2 (i+1) g':=⟨hz',hTI',⟨_,_,t.extBut _ _ Oz a2⟩,zbS a3.1 λo e=>t.extBut _ _ i1z e,zbS a4.1 λo e=>t.extBut _ _ i2z e⟩
  have fT:H s.heap.objs.size=none:=I.hok.fresh (xA4 _);have J:Inv X pins σ (upd H s.heap.objs.size (.tup [x,y])) { s with heap:=g' }:=I.turnedT (t':=s.toks) (fp:=[z,TI,TO,i1,i2]) hf k' (xA4 _) (by show 2<=sizeLine;decide) (its:=#[u,v]) (.cons ru (.cons rv .nil)) ⟨_,t.extBut _ _ (lt S.zip) a5,rfl,_,rfl⟩;refine⟨.ref s.heap.objs.size,upd H s.heap.objs.size (.tup [x,y]),J,rfl,
   ⟨_,x,y,rfl,fT,rfl,λxs' hx'=>by rw[I.seqB_inj hx' h1];exact ex,λys' hy'=>by rw[I.seqB_inj hy' h2];exact ey⟩,hS',λb hb=>?_⟩
  have fobj:∃o,s.heap.get? b=some o:=by
   simp only[xAa,xAk,xB0]at hb;rcases hb with rfl|rfl|rfl|rfl|rfl
   ·exact⟨_,S.zip⟩
   ·exact⟨_,S.ti⟩
   ·exact⟨_,hO⟩
   ·exact⟨_,e1⟩
   ·exact⟨_,e2⟩
  obtain⟨o,eo⟩:=fobj;rw[zah (Ne.symm (lt eo))];exact fz b hb
 done:=by
  intro X hP hw hK hc i pins s σ H E I hf S hg;subst hP hw hK;obtain⟨xs,ys,h1,h2,le⟩:=hg;obtain⟨us,r1,p1,z1⟩:=I.seqB h1;obtain⟨vs,r2,p2,z2⟩:=I.seqB h2;obtain⟨p,q,hO⟩:=S.to;obtain⟨o1,e1,_,c1⟩:=ya3 S.it1;obtain⟨o2,e2,_,c2⟩:=ya3 S.it2;have hh:X.A.handled=none:=I.ok.hd hc;have nl1:∀b∈[z,TI,TO,i1,i2],l1≠b:=λb hb=>I.sq_ne h1 (hf b hb)
  have nl2:∀b∈[z,TI,TO,i1,i2],l2≠b:=λb hb=>I.sq_ne h2 (hf b hb)
  have i1z:i1≠z:=by rcases c1 with c|c <;> exact ya4 e1 S.zip c rfl
  have i2z:i2≠z:=by rcases c2 with c|c <;> exact ya4 e2 S.zip c rfl
  have i1I:i1≠TI:=by rcases c1 with c|c <;> exact ya4 e1 S.ti c rfl
  have i2I:i2≠TI:=by rcases c2 with c|c <;> exact ya4 e2 S.ti c rfl
  have i1O:i1≠TO:=by rcases c1 with c|c <;> exact ya4 e1 hO c rfl
  have i2O:i2≠TO:=by rcases c2 with c|c <;> exact ya4 e2 hO c rfl
  have Iz:TI≠z:=ya4 S.ti S.zip rfl rfl;have Oz:TO≠z:=ya4 hO S.zip rfl rfl;have D:ZAp z TI TO [i1,l1] [i2,l2] i1 i2:=by
   refine⟨Iz,Oz,nIO,?_,?_,?_,?_,Ne.symm i1I,Ne.symm i2I,?_,?_⟩
   ·simp only[xAa,xAk,xB0,not_or];exact⟨Ne.symm i1z,Ne.symm (nl1 z (by simp))⟩
   ·simp only[xAa,xAk,xB0,not_or];exact⟨Ne.symm i2z,Ne.symm (nl2 z (by simp))⟩
   ·simp only[xAa,xAk,xB0,not_or];exact⟨Ne.symm i1O,Ne.symm (nl1 TO (by simp))⟩
   ·simp only[xAa,xAk,xB0,not_or];exact⟨Ne.symm i2O,Ne.symm (nl2 TO (by simp))⟩
   ·simp only[xAa,xAk,xB0,not_or];exact⟨n12,Ne.symm (nl2 i1 (by simp))⟩
   ·simp only[xAa,xAk,xB0,not_or];exact⟨Ne.symm n12,Ne.symm (nl1 i2 (by simp))⟩
  have he:us.toArray[i]?=none\/vs.toArray[i]?=none:=by
   have l1:=r1.length;have l2:=r2.length;rcases le with l|l
   ·exact .inl (by simp;omega)
   ·exact .inr (by simp;omega)
  have hT:s.TypeIs (.ref z) "zip":=⟨_,S.zip,rfl⟩
  unfold pyNext;refine xA0 (xBr (xAA (name:=Str.ofString "__next__") hT F.slot_zip_next (xAF F.slot_zip_next hT F.entry_zip_next
   (ygS D (subB b1 (A:=X.A.in1) hh (nl1 i1 (by simp))) (subB b2 (A:=X.A.in1) hh (nl2 i2 (by simp))) S.zip S.ti hO ⟨S.it1,p1⟩ ⟨S.it2,p2⟩ he λg e kg ⟨oe,ho,hce⟩=>?_) (F.args_zip_next_1 _))))
  refine xA0 (wpAny_isInstance (T:="StopIteration") (b:=true) ⟨oe,ho,hce⟩ isSubtype_stop (xA3 ⟨rfl,?_⟩));refine I.turnedL (t':=s.toks) (fp:=[z,TI,TO,i1,i2]) hf λb o hb e=>?_
  simp only[xAa,xAk,xB0,not_or]at hb;exact kg b o hb.1 hb.2.2.1 hb.2.2.2.1 hb.2.2.2.2 e
 self:=λA i s Q E S h=>wpAny_pyIter_zip S.zip h
noncomputable def zfX(h:Heap)(o1 o2:Obj):Heap:=(((h.push o1).push o2).push { cls:=.type "tuple",data:=.seq #[.ref h.objs.size,.ref (h.push o1).objs.size] }).push { cls:=.type "tuple",data:=.seq #[.none,.none] }
noncomputable def zdc(h:Heap)(o1 o2:Obj):Heap:=(zfX h o1 o2).push { cls:=.type "zip",data:=.fields #[.none,.bool false,.bool false,.ref ((h.push o1).push o2).objs.size,.ref (((h.push o1).push o2).push { cls:=.type "tuple",data:=.seq #[.ref h.objs.size,.ref (h.push o1).objs.size] }).objs.size] }
theorem yfg(b1 b2:Bool)(l1 l2:Addr)(xs ys:Array Value) :
  Meets (Builtin.«zip.__new__» ⟨[.type "zip",.ref l1,.ref l2],[]⟩) (λ_ R s=>ybs b1 s.heap l1 xs/\ybs b2 s.heap l2 ys/\R (.ok (.ret (.ref (zfX s.heap (yat b1 l1) (yat b2 l2)).objs.size))) { s with heap:=zdc s.heap (yat b1 l1) (yat b2 l2) }) :=
 .of_wp λprog w A R s h=>by
  obtain⟨hp,g,d,tk,os⟩:=s;obtain⟨hl1,hl2,h⟩:=h;have hsub:=sub_zip;have hL1:ybs b1 (Shared.heap ⟨hp,g,d,tk,os⟩) l1 xs:=hl1;have hL2:ybs b2 (Shared.heap ⟨hp.push (yat b1 l1),g,d,tk,os⟩) l2 ys:=ygo hl2 λo e=>xA2 _ e
  wp_walk using zcG hL1,zcG hL2
  exact⟨_,rfl,h⟩
end L2
end
section
-- text: ExtD
namespace L2
open PySem PySem.Spec PyProof.Rows
section
variable {X:Cx}
noncomputable def iZip(K:PySem.W.Frag)(ta:TA):TI:=λσ H R=>ta σ H λvs H1=>∃b1 b2 a1 a2,vs=[.ref a1,.ref a2]/\(∃xs,SqB K b1 H1 a1 xs)/\(∃ys,SqB K b2 H1 a2 ys)/\R (Itz K b1 b2 a1 a2) H1
theorem zij{pins:List (Addr×Obj)}{σ:St}{H:Hp}{s:Shared}{R:It->Hp->Prop}{elts:List Expr}{kk:Nat}{tpos:Pos}{b1 b2:Bool}{l1 l2:Addr}{xs ys:List V}(I:Inv X pins σ H s)(h1:SqB X.K b1 H l1 xs)(h2:SqB X.K b2 H l2 ys)(q:R (Itz X.K b1 b2 l1 l2) H) :
  wpAny (model X.prog X.w) X.A (call (.type "zip") [.ref l1,.ref l2]) (λv s1=>wpAny (model X.prog X.w) X.A (pyIter v) (PIE X pins σ (.Tuple elts kk tpos) R) X.xe s1) X.xe s:=by
 obtain⟨us,r1,p1,z1⟩:=I.seqB h1;obtain⟨vs,r2,p2,z2⟩:=I.seqB h2;refine callType_new F.called_zip #[] (F.typeCall_zip_2 _ _) (F.newCall_zip_2 _ _) (λobj=>F.args_object_init_3 obj _ _) F.entry_zip_new (yfg b1 b2 l1 l2 us.toArray vs.toArray) ⟨p1,p2,?_⟩;generalize hn:s.heap.objs.size=n;have s1:(s.heap.push (yat b1 l1)).objs.size=n+1:=by rw[xB4,hn]
 have s2:((s.heap.push (yat b1 l1)).push (yat b2 l2)).objs.size=n+2:=by rw[xB4,s1]
 have s3:(((s.heap.push (yat b1 l1)).push (yat b2 l2)).push { cls:=.type "tuple",data:=.seq #[.ref s.heap.objs.size,.ref (s.heap.push (yat b1 l1)).objs.size] }).objs.size=n+3:=by rw[xB4,s2]
 have s4:(zfX s.heap (yat b1 l1) (yat b2 l2)).objs.size=n+4:=by unfold zfX;rw[xB4,s3]
 have old:∀b o,s.heap.get? b=some o->(zdc s.heap (yat b1 l1) (yat b2 l2)).get? b=some o:=λb o e=>xA2 _ (xA2 _ (xA2 _ (xA2 _ (xA2 _ e))))
 have gz:(zdc s.heap (yat b1 l1) (yat b2 l2)).get? (n+4)=some { cls:=.type "zip",data:=.fields #[.none,.bool false,.bool false,.ref (n+2),.ref (n+3)] }:=by
  have e:(zdc s.heap (yat b1 l1) (yat b2 l2)).get? (zfX s.heap (yat b1 l1) (yat b2 l2)).objs.size=some _:=xA6 _ rfl;rw[s4]at e;rw[e,s2,s3]
 have gO:(zdc s.heap (yat b1 l1) (yat b2 l2)).get? (n+3)=some { cls:=.type "tuple",data:=.seq #[.none,.none] }:=by
  have e:=xA6 (h:=((s.heap.push (yat b1 l1)).push (yat b2 l2)).push { cls:=.type "tuple",data:=.seq #[.ref s.heap.objs.size,.ref (s.heap.push (yat b1 l1)).objs.size] }) (o:={ cls:=.type "tuple",data:=.seq #[.none,.none] }) rfl;rw[s3]at e;exact xA2 _ e
 have gI:(zdc s.heap (yat b1 l1) (yat b2 l2)).get? (n+2)=some { cls:=.type "tuple",data:=.seq #[.ref n,.ref (n+1)] }:=by
  have e:(zdc s.heap (yat b1 l1) (yat b2 l2)).get? ((s.heap.push (yat b1 l1)).push (yat b2 l2)).objs.size=some { cls:=.type "tuple",data:=.seq #[.ref s.heap.objs.size,.ref (s.heap.push (yat b1 l1)).objs.size] }:=xA2 _ (xA2 _ (xA6 _ rfl));rw[s2]at e;rw[e,s1,hn]
 have g2:(zdc s.heap (yat b1 l1) (yat b2 l2)).get? (n+1)=some (yat b2 l2):=by
  have e:=xA6 (h:=s.heap.push (yat b1 l1)) (o:=yat b2 l2) rfl;rw[s1]at e;exact xA2 _ (xA2 _ (xA2 _ e))
 have g1:(zdc s.heap (yat b1 l1) (yat b2 l2)).get? n=some (yat b1 l1):=by
  have e:=xA6 (h:=s.heap) (o:=yat b1 l1) rfl;rw[hn]at e;exact xA2 _ (xA2 _ (xA2 _ (xA2 _ e)))
 rw[s4];refine⟨⟨_,gz,rfl⟩,wpAny_pyIter_zip gz ?_⟩;have I1:Inv X pins σ H { s with heap:=zdc s.heap (yat b1 l1) (yat b2 l2) }:=I.kept (t':=s.toks) old;refine⟨n+4,[n+4,n+2,n+3,n,n+1],_,_,H,rfl,I1,zgJ b1 b2 (n+4) (n+2) (n+3) n (n+1) l1 l2 (show @Ne Nat _ _ by omega) (show @Ne Nat _ _ by omega),⟨gz,gI,⟨_,_,gO⟩,zcK _ _ _ _ g1,zcK _ _ _ _ g2⟩,λb hb=>?_,q⟩;have le:s.heap.objs.size<=b:=by
  rw[hn];simp only[xAa,xAk,xB0]at hb;show @LE.le Nat _ n b;rcases hb with e|e|e|e|e <;> (have e':@Eq Nat b _:=e;omega)
 exact I.fpOk le (I.hok.fresh le)
theorem yg7{a b:Expr}{ta:TA}{p pos:Pos}{elts:List Expr}{kk:Nat}{tpos:Pos}(hg:Gl X "zip")(hm:X.mg "zip"=none)(ha:PA X [a,b] ta)(hs:starEach [a,b] X.env=[(false,eval a X.env),(false,eval b X.env)]:=by rfl)(hs2:starEach [b] X.env=[(false,eval b X.env)]:=by rfl) :
  PI X (.Tuple elts kk tpos) (.Call (.Name "zip" p) [a,b] [] pos) (iZip X.K ta):=by
 intro pins s σ H R I h;refine Call_ (ybE I hg hm (u:=.type "zip") boot_zip (xAP (thn (ha pos pins s σ H _ I h) λus s1 ⟨vs,H1,I1,r1,q1⟩=>?_) (by rw[hs,hs2]) (by rw[hs2];rfl)));obtain⟨b1,b2,a1,a2,e,⟨xs,h1⟩,⟨ys,h2⟩,q⟩:=q1;subst e;cases r1 with
 |cons r rr=>
  cases rr with
  |cons r' rr=>
   cases rr;cases r;cases r';exact zij I1 h1 h2 q
end
end L2
end
section
-- text: ExtE
namespace L2
open PySem PySem.Spec PyProof.Rows
noncomputable def Ite(K:PySem.W.Frag)(b:Bool)(l:Addr):It :=
 ⟨λi H=>∃xs x,SqB K b H l xs/\xs[i]?=some x,
  λi H v H'=>∃T x,v = .ref T/\H T=none/\H'=upd H T (.tup [.int i,x])/\(∀xs,SqB K b H l xs->xs[i]?=some x),
  λi H=>∃xs,SqB K b H l xs/\xs.length<=i⟩
theorem zih{P:Program}{w:World}{A:Around}(b:Bool){a l:Addr}{xs:Array Value}(hh:A.handled=none)(ne:l≠a):Draws P w A a [a,l] xs.size (λi v=>xs[i]?=some v) (λk h=>zdx b h a l k/\ybs b h l xs) where
 live:=λk h z=>let ⟨o,e,_⟩:=(subB (P:=P) (w:=w) b hh ne).obj k h z;⟨o,e⟩
 frame:=λk h h' z q=>(subB (P:=P) (w:=w) b hh ne).keep k h h' z q
 item:=λk s Q E hk z q=>by
  have hx:xs[k]?=some xs[k]:=xB5 hk;exact(subB (P:=P) (w:=w) b hh ne).item k xs[k] s Q E z hx λh' a1 a2=>q xs[k] h' s.toks hx a1 a2
 done:=λs Q E z q=>(subB (P:=P) (w:=w) b hh ne).stop xs.size s Q E z (Array.getElem?_eq_none (xA4 _)) q
structure ESt(b:Bool)(e it l:Addr)(k:Nat)(h:Heap):Prop where
 en:∃old,IsEnum h e it k old
 it:zdx b h it l k
theorem zf9{P:Program}{w:World}{K:PySem.W.Frag}{elts:List Expr}{kk:Nat}{tpos:Pos}(b:Bool)(e it l:Addr) :
  Turn P w K (.Tuple elts kk tpos) (Ite K b l) [e,it] e (ESt b e it l) where
 mem:=xAf
 obj:=λk h S c hc=>by
  obtain⟨old,he⟩:=S.en;obtain⟨o1,e1,d1,_⟩:=ya3 S.it;simp only[xAa,xAk,xB0]at hc;rcases hc with rfl|rfl
  ·exact⟨_,he,λv q=>by cases q⟩
  ·exact⟨o1,e1,d1⟩
 keep:=λk h h' S q=>by
  obtain⟨old,he⟩:=S.en;exact⟨⟨old,q e (by simp) _ he⟩,zbS S.it λo x=>q it (by simp) o x⟩
 item:=by
  intro X hP hw hK hc i pins s σ H E I hf S hg;subst hP hw hK;obtain⟨xs,x,h1,ex⟩:=hg;obtain⟨us,r1,p1,z1⟩:=I.seqB h1;obtain⟨u,eu,ru⟩:=r1.get ex;obtain⟨old,he⟩:=S.en;obtain⟨o1,e1,_,c1⟩:=ya3 S.it;have hh:X.A.handled=none:=I.ok.hd hc;have nl:∀c∈[e,it],l≠c:=λc hc=>I.sq_ne h1 (hf c hc)
  have ei:e≠it:=by rcases c1 with c|c <;> exact ya4 he e1 rfl c
  have ilt:i<us.toArray.size:=by
   have:=(xAo.mp eu).1
   simpa using this
  refine wpAny_pyNext_enum_itemD (zih b (A:=X.A.in1) hh (nl it (by simp))) he ⟨S.it,p1⟩ ilt ei (by simp only[xAa,xAk,xB0,not_or];exact⟨ei,Ne.symm (nl e (by simp))⟩) λy g tk hy a1 a2 a3 a4 a5=>?_
  have ey:y=u:=by
   have q1:us[i]?=some y:=by simpa using hy
   rw[eu]at q1;cases q1;rfl
  subst ey;refine⟨_,rfl,wpAny_letOwnedTupleGo_enum (s:={ s with heap:=g,toks:=tk+1 }) a1 λg' he' t=>?_⟩;have lt:∀ {c:Addr} {o:Obj},s.heap.get? c=some o->s.heap.objs.size≠c:=λq=>Nat.ne_of_gt (xAc q)
  have k':∀c o,c∉[e,it]->s.heap.get? c=some o->g'.get? c=some o:=λc o hc q=>by
   simp only[xAa,xAk,xB0,not_or]at hc;exact t.extBut c o hc.1 (a5 c o hc.1 hc.2 q)
  have hS':ESt b e it l (i+1) g':=⟨⟨_,by simpa using he'⟩,zbS a2.1 λo q=>t.extBut _ _ (Ne.symm ei) q⟩
  have fT:H s.heap.objs.size=none:=I.hok.fresh (xA4 _);have J:Inv X pins σ (upd H s.heap.objs.size (.tup [.int i,x])) { s with heap:=g',toks:=tk+1 } :=
   I.turnedT (t':=tk+1) (fp:=[e,it]) hf k' (xA4 _) (by show 2<=sizeLine;decide) (its:=#[.int i tk,y]) (.cons ⟨_,rfl⟩ (.cons ru .nil)) ⟨_,t.extBut _ _ (lt he) a3,rfl,_,rfl⟩
  refine⟨.ref s.heap.objs.size,upd H s.heap.objs.size (.tup [.int i,x]),J,rfl,⟨_,x,rfl,fT,rfl,λxs' hx'=>by rw[I.seqB_inj hx' h1];exact ex⟩,hS',λc hc=>?_⟩;have fobj:∃o,s.heap.get? c=some o:=by
   simp only[xAa,xAk,xB0]at hc;rcases hc with rfl|rfl
   ·exact⟨_,he⟩
   ·exact⟨_,e1⟩
  obtain⟨o,eo⟩:=fobj;rw[zah (Ne.symm (lt eo))];exact(hf c hc).1
 done:=by
  intro X hP hw hK hc i pins s σ H E I hf S hg;subst hP hw hK;obtain⟨xs,h1,le⟩:=hg;obtain⟨us,r1,p1,z1⟩:=I.seqB h1;obtain⟨old,he⟩:=S.en;have hh:X.A.handled=none:=I.ok.hd hc;have nl:∀c∈[e,it],l≠c:=λc hc=>I.sq_ne h1 (hf c hc)
  have D:=subB (P:=X.prog) (w:=X.w) b (A:=X.A.in1) (xs:=us.toArray) hh (nl it (by simp));have hT:s.TypeIs (.ref e) "enumerate":=⟨_,he,rfl⟩
  unfold pyNext;refine xA0 (xBr (xAA (name:=Str.ofString "__next__") hT F.slot_enumerate_next (xAF F.slot_enumerate_next hT F.entry_enumerate_next ?_ (F.args_enumerate_next_1 _))));show wpAny _ _ (field (.ref e) 2 >>= _) _ _ s;refine xA0 (xAU he rfl (x:=.ref it) rfl ?_);refine xA0 (D.stop i _ _ _ ⟨S.it,p1⟩ (by have:=r1.length;simp;omega) λg x t ⟨o,ho,hce⟩=>?_);refine xA0 (wpAny_isInstance (T:="StopIteration") (b:=true) ⟨o,ho,hce⟩ isSubtype_stop (xA3 ⟨rfl,?_⟩));refine I.turnedL (t':=s.toks) (fp:=[e,it]) hf λc o hc q=>?_
  simp only[xAa,xAk,xB0,not_or]at hc;exact t c o hc.2 q
 self:=λA i s Q E S h=>let ⟨_,he⟩:=S.en;wpAny_pyIter_enum he h
theorem yeo(b:Bool)(l:Addr)(xs:Array Value)(n:Nat)(dct:Option Addr)(sl:Array (Option Value)) :
  Meets (Builtin.«enumerate.__new__» ⟨[.type "enumerate",.ref l],[]⟩) (λ_ R s=>s.heap.get? l=some { cls:=.type (if b then "tuple" else "list"),dict:=dct,data:=.seq xs n,slots:=sl }/\R (.ok (.ret (.ref (s.heap.push (yat b l)).objs.size))) { s with heap:=(s.heap.push (yat b l)).push { cls:=.type "enumerate",data:=.fields #[.none,.bool false,.ref s.heap.objs.size,rawInt 0,.none,.none] } }) :=
 .of_wp λprog w A R s h=>by
  obtain⟨hp,g,d,tk,os⟩:=s;obtain⟨hl,h⟩:=h;have hsub:=sub_enumerate;have hL:ybs b (Shared.heap ⟨hp,g,d,tk,os⟩) l xs:=by cases b <;> exact⟨_,hl,rfl,n,rfl⟩
  wp_walk using wpAny_loadPart' hl;(refine wpAny_stack_any λst=>xA3 ?_);split
  ·rename_i c _ _ _ _ _;cases (c==Value.type "enumerate") <;> (wp_walk using wpAny_loadPart' hl,zcG hL;exact⟨_,rfl,h⟩)
  ·wp_walk using wpAny_loadPart' hl,zcG hL;exact⟨_,rfl,h⟩
theorem yes{b:Bool}{h:Heap}{l:Addr}{xs:Array Value}(x:ybs b h l xs):∃n dct sl,h.get? l=some { cls:=.type (if b then "tuple" else "list"),dict:=dct,data:=.seq xs n,slots:=sl }:=by
 cases b <;> obtain⟨⟨c,dct,dt,sl⟩,e,hc,n,hd⟩:=x
 ·replace hc:c = .type "list":=hc
  replace hd:dt = .seq xs n:=hd
  subst hc hd;exact⟨n,dct,sl,e⟩
 ·replace hc:c = .type "tuple":=hc
  replace hd:dt = .seq xs n:=hd
  subst hc hd;exact⟨n,dct,sl,e⟩
section
variable {X:Cx}
noncomputable def yiu(K:PySem.W.Frag)(ta:TA):TI:=λσ H R=>ta σ H λvs H1=>∃b a,vs=[.ref a]/\(∃xs,SqB K b H1 a xs)/\R (Ite K b a) H1
theorem zhR{pins:List (Addr×Obj)}{σ:St}{H:Hp}{s:Shared}{R:It->Hp->Prop}{elts:List Expr}{kk:Nat}{tpos:Pos}{b:Bool}{l:Addr}{xs:List V}(I:Inv X pins σ H s)(h1:SqB X.K b H l xs)(q:R (Ite X.K b l) H) :
  wpAny (model X.prog X.w) X.A (call (.type "enumerate") [.ref l]) (λv s1=>wpAny (model X.prog X.w) X.A (pyIter v) (PIE X pins σ (.Tuple elts kk tpos) R) X.xe s1) X.xe s:=by
 obtain⟨us,r1,p1,z1⟩:=I.seqB h1;obtain⟨m,dct,sl,hl⟩:=yes p1;refine callType_new F.called_enumerate #[] (F.typeCall_enumerate_1 _) (F.newCall_enumerate_1 _) (λobj=>F.args_object_init_2 obj _) F.entry_enumerate_new (yeo b l us.toArray m dct sl) ⟨hl,?_⟩;generalize hn:s.heap.objs.size=n;have s1:(s.heap.push (yat b l)).objs.size=n+1:=by rw[xB4,hn]
 generalize hG:(s.heap.push (yat b l)).push { cls:=.type "enumerate",data:=.fields #[.none,.bool false,.ref n,rawInt 0,.none,.none] }=G;have old:∀c o,s.heap.get? c=some o->G.get? c=some o:=λc o e=>hG ▸ xA2 _ (xA2 _ e)
 have ge:IsEnum G (n+1) n 0 .none:=by
  have e:G.get? (s.heap.push (yat b l)).objs.size=some { cls:=.type "enumerate",data:=.fields #[.none,.bool false,.ref n,rawInt 0,.none,.none] }:=hG ▸ xA6 _ rfl;rw[s1]at e;exact e
 have gi:G.get? n=some (yat b l):=by
  have e:G.get? s.heap.objs.size=some (yat b l):=hG ▸ xA2 _ (xA6 _ rfl);rw[hn]at e;exact e
 rw[s1];refine⟨⟨_,ge,rfl⟩,wpAny_pyIter_enum ge ?_⟩;have I1:Inv X pins σ H { s with heap:=G }:=I.kept (t':=s.toks) old;refine⟨n+1,[n+1,n],_,_,H,rfl,I1,zf9 b (n+1) n l,⟨⟨_,ge⟩,zcK _ _ _ _ gi⟩,λc hc=>?_,q⟩;have le:s.heap.objs.size<=c:=by
  rw[hn];simp only[xAa,xAk,xB0]at hc;show @LE.le Nat _ n c;rcases hc with e|e <;> (have e':@Eq Nat c _:=e;omega)
 exact I.fpOk le (I.hok.fresh le)
theorem ybz{a:Expr}{ta:TA}{p pos:Pos}{elts:List Expr}{kk:Nat}{tpos:Pos}(hg:Gl X "enumerate")(hm:X.mg "enumerate"=none)(ha:PA X [a] ta)(hs:starEach [a] X.env=[(false,eval a X.env)]:=by rfl) :
  PI X (.Tuple elts kk tpos) (.Call (.Name "enumerate" p) [a] [] pos) (yiu X.K ta):=by
 intro pins s σ H R I h;refine Call_ (ybE I hg hm (u:=.type "enumerate") boot_enumerate (xAP (thn (ha pos pins s σ H _ I h) λus s1 ⟨vs,H1,I1,r1,q1⟩=>?_) hs rfl));obtain⟨b,a,e,⟨xs,h1⟩,q⟩:=q1;subst e;cases r1 with
 |cons r rr=>
  cases rr;cases r;exact zhR I1 h1 q
end
structure Seqs(J:It)(n:Nat)(G:Hp->Prop)(y:Nat->V->Hp->Hp->Prop):Prop where
 go:∀i H,i<n->G H->J.go i H
 stop:∀H,G H->J.stop n H
 yld:∀i H x H',i<n->G H->J.yld i H x H'->y i x H H'
theorem yaT{K:PySem.W.Frag}{a:Addr}{xs:List V}:Seqs (Itl K a) xs.length (λH=>SqL K H a xs) (λi x H H'=>H'=H/\xs[i]?=some x) :=
 ⟨λi H hi g=>⟨xs,xs[i],g,by simp[hi]⟩,λH g=>⟨xs,g,xA4 _⟩,λi H x H' hi g q=>⟨q.1,q.2 xs g⟩⟩
theorem za9{K:PySem.W.Frag}{a:Addr}{xs:List V}:Seqs (Itt K a) xs.length (λH=>SqT K H a xs) (λi x H H'=>H'=H/\xs[i]?=some x) :=
 ⟨λi H hi g=>⟨xs,xs[i],g,by simp[hi]⟩,λH g=>⟨xs,g,xA4 _⟩,λi H x H' hi g q=>⟨q.1,q.2 xs g⟩⟩
theorem zaZ{lo:Int}{n:Nat}:Seqs (Itr lo n) n (λ_=>True) (λi x H H'=>H'=H/\x = .int (lo+i)) :=
 ⟨λi H hi _=>hi,λH _=>xA4 _,λi H x H' hi _ q=>q⟩
theorem zeZ{K:PySem.W.Frag}{b1 b2:Bool}{l1 l2:Addr}{xs ys:List V}:Seqs (Itz K b1 b2 l1 l2) (min xs.length ys.length) (λH=>SqB K b1 H l1 xs/\SqB K b2 H l2 ys)
  (λi x H H'=>∃T u v,x = .ref T/\xs[i]?=some u/\ys[i]?=some v/\H T=none/\H'=upd H T (.tup [u,v])) :=
 ⟨λi H hi g=>⟨xs,ys,xs[i]'(),ys[i]'(),g.1,g.2,by simp,by simp⟩,
  λH g=>⟨xs,ys,g.1,g.2,()⟩,
  λi H x H' hi g ⟨T,u,v,e1,e2,e3,e4,e5⟩=>⟨T,u,v,e1,e4 xs g.1,e5 ys g.2,e2,e3⟩⟩
theorem zaW{K:PySem.W.Frag}{b:Bool}{l:Addr}{xs:List V}:Seqs (Ite K b l) xs.length (λH=>SqB K b H l xs)
  (λi x H H'=>∃T u,x = .ref T/\xs[i]?=some u/\H T=none/\H'=upd H T (.tup [.int i,u])) :=
 ⟨λi H hi g=>⟨xs,xs[i],g,by simp[hi]⟩,λH g=>⟨xs,g,xA4 _⟩,λi H x H' hi g ⟨T,u,e1,e2,e3,e4⟩=>⟨T,u,e1,e4 xs g,e2,e3⟩⟩
theorem yaK{J:It}{n:Nat}{G:Hp->Prop}{y:Nat->V->Hp->Hp->Prop}(S:Seqs J n G y){g:TG}{tb:TS}{D:Ends}{σ:St}{H:Hp}(Pv:Nat->St->Hp->Prop)(h0:Pv 0 σ H)(hl:∀i σ H,i<=n->Pv i σ H->G H)
  (hs:∀i x σ H H',i<n->Pv i σ H->y i x H H'->g x σ H' λσ2 H2=>tb { D with nx:=Pv (i+1),ct:=Pv (i+1),bk:=D.nx } σ2 H2) (hd:∀σ H,Pv n σ H->D.nx σ H) :
  ∃W:Nat->Nat->St->Hp->Prop,(∃m,W 0 m σ H)/\∀i m σ H,W i m σ H->
   (J.stop i H/\D.nx σ H)\/(J.go i H/\∃N:St->Hp->Prop,(∀σ' H',N σ' H'->∃m',m'<m/\W (i+1) m' σ' H')/\∀x H',J.yld i H x H'->g x σ H' λσ2 H2=>tb { D with nx:=N,ct:=N,bk:=D.nx } σ2 H2):=by
 refine⟨λi m σ H=>m=n-i/\i<=n/\Pv i σ H,⟨n,by simp,xB1 _,h0⟩,?_⟩;rintro i m σ H ⟨rfl,hi,p⟩;by_cases hlt:i<n
 ·exact .inr ⟨S.go i H hlt (hl i σ H hi p),Pv (i+1),λσ' H' p'=>⟨n-(i+1),(),rfl,hlt,p'⟩,λx H' q=>hs i x σ H H' hlt p (S.yld i H x H' hlt (hl i σ H hi p) q)⟩
 ·have e:i=n:=by omega
  subst e;exact .inl ⟨S.stop H (hl _ σ H hi p),hd σ H p⟩
theorem zav{J:It}{n:Nat}{G:Hp->Prop}{y:Nat->V->Hp->Hp->Prop}(S:Seqs J n G y){σc:St}{g:TG}{ti:TT}{te:TE}{H:Hp}{Fn:List V->Hp->Prop}(Pv:Nat->List V->Hp->Prop)(h0:Pv 0 [] H)(hl:∀i acc H,i<=n->Pv i acc H->G H)
  (hz:∀i acc H,i<n->Pv i acc H->acc.length<sizeLine)
  (hs:∀i acc x H H',i<n->Pv i acc H->y i x H H'->g x σc H' λσ2 H2=>ti σ2 H2 λb H3=>if b=true then te σ2 H3 λv H4=>Pv (i+1) (acc++[v]) H4 else Pv (i+1) acc H3)
  (hd:∀acc H,Pv n acc H->Fn acc H) :
  ∃W:ygt,(∃m,W 0 m [] H)/\∀i m acc H,W i m acc H->
   (J.stop i H/\Fn acc H)\/
   (J.go i H/\acc.length<sizeLine/\∃N:List V->Hp->Prop,(∀acc' H',N acc' H'->∃m',m'<m/\W (i+1) m' acc' H')/\∀x H',J.yld i H x H'->g x σc H' λσ2 H2=>ti σ2 H2 λb H3=>if b=true then te σ2 H3 λv H4=>N (acc++[v]) H4 else N acc H3):=by
 refine⟨λi m acc H=>m=n-i/\i<=n/\Pv i acc H,⟨n,by simp,xB1 _,h0⟩,?_⟩;rintro i m acc H ⟨rfl,hi,p⟩;by_cases hlt:i<n
 ·exact .inr ⟨S.go i H hlt (hl i acc H hi p),hz i acc H hlt p,Pv (i+1),λacc' H' p'=>⟨n-(i+1),(),rfl,hlt,p'⟩,λx H' q=>hs i acc x H H' hlt p (S.yld i H x H' hlt (hl i acc H hi p) q)⟩
 ·have e:i=n:=by omega
  subst e;exact .inl ⟨S.stop H (hl _ acc H hi p),hd acc H p⟩
end L2
end
section
-- text: ExtF
namespace L2
open PySem PySem.Spec PyProof.Rows
section
variable {X:Cx}
noncomputable def CDv(i j:Int):Prop:=0<j/\j<2^64
theorem CDv.log{i j:Int}(h:CDv i j):j.natAbs.log2<9000:=by
 obtain⟨h1,h2⟩:=h;have h0:j.natAbs≠0:=by omega
 have:j.natAbs<2^64:=by omega
 exact xAp ((Nat.log2_lt h0).mpr this) #[]
theorem ycK:OpR X (binaryOp .FloorDiv) (rI CDv λi j=>.int (i/j)):=opI λi j _ _ _ _ _ hc q=>by
 have h1:(0:Int)<j:=hc.1;exact floordiv_int () (by rw[Int.fdiv_eq_ediv_of_nonneg i ()];exact q) (.inl (PyProof.noPylong_of_log2 hc.log))
noncomputable def CDvB(i j:Int):Prop:=0<j/\j<2^1000
theorem CDvB.log{i j:Int}(h:CDvB i j):j.natAbs.log2<9000:=by
 obtain⟨h1,h2⟩:=h;have h0:j.natAbs≠0:=by omega
 have:j.natAbs<2^1000:=by omega
 exact xAp ((Nat.log2_lt h0).mpr this) #[]
theorem yht:OpR X (binaryOp .FloorDiv) (rI CDvB λi j=>.int (i/j)):=opI λi j _ _ _ _ _ hc q=>by
 have h1:(0:Int)<j:=hc.1;exact floordiv_int () (by rw[Int.fdiv_eq_ediv_of_nonneg i ()];exact q) (.inl (PyProof.noPylong_of_log2 hc.log))
theorem ycW:OpR X (inplaceOp .FloorDiv) (rI CDv λi j=>.int (i/j)):=opI λi j _ _ _ _ _ hc q=>by
 have h1:(0:Int)<j:=hc.1;exact ifloordiv_int () (by rw[Int.fdiv_eq_ediv_of_nonneg i ()];exact q) (.inl (PyProof.noPylong_of_log2 hc.log))
theorem yhQ:OpR X (binaryOp .Mult) (rI IntMulOk λi j=>.int (i*j)):=opI λ_ _ _ _ _ _ _ hc q=>mul_int q hc
noncomputable def rNeE(K:PySem.W.Frag):R2:=λx y H Q=>∃a b xs,x = .ref a/\y = .ref b/\SqL K H a xs/\SqL K H b []/\Q (.bl (!xs.isEmpty)) H
theorem zg5(hu:X.A.units<cLine):OpR X (compareOp .NotEq) (rNeE X.K):=by
 intro pins s σ H x y v u Q I rx ry h;obtain⟨a,b,xs,rfl,rfl,ha,hb,q⟩:=h;cases rx;cases ry;obtain⟨us,r1,p1,z1⟩:=I.list ha;obtain⟨vs,r2,p2,z2⟩:=I.list hb;cases r2;cases xs with
 |nil=>
  cases r1;exact SeqAt.RcNeAt.lists (e:=λ_=>true) p1.isList p2.isList rfl hu (λj h1 _=>absurd h1 (by simp)) _ _ _ _ ⟨.bl false,H,I,rfl,q⟩
 |cons x xs=>
  cases r1;exact SeqAt.RcNeAt.lists_lengths p1.isList p2.isList (by simp) hu _ _ _ _ ⟨.bl true,H,I,rfl,q⟩
noncomputable def tRev(K:PySem.W.Frag)(te:TE):TE:=λσ H Q=>te σ H λx H1=>∃a xs,x = .ref a/\SqL K H1 a xs/\∀p,H1 p=none->Q (.ref p) (upd H1 p (.lst xs.reverse))
theorem zh3{e:Expr}{te:TE}{p0 p1 p2 pos:Pos}{j}(he:PE X e te):PE X (.Subscript e (.Slice none none (some (.UnaryOp .USub (.Constant (.int 1) j p0) p1)) p2) pos) (tRev X.K te):=by
 intro pins s σ H Q I h;refine Subscript_ (thn (he pins s σ H _ I h) λv s1 ⟨x,H1,I1,r1,q1⟩=>?_);obtain⟨a,xs,rfl,hx,q⟩:=q1;cases r1;refine wpAny_Slice ?_;rw[evalPart_none];refine xA3 ?_;refine xA3 ?_;rw[evalPart_some];refine thn ((yet ycX (yac (X:=X))) pins s1 σ H1 (λv H'=>v = .int (-1)/\H'=H1) I1 ⟨1,rfl,rfl,rfl⟩) λst s2 ⟨v,H2,I2,r2,e1,e2⟩=>?_
 subst e1 e2;obtain⟨t,rfl⟩:=r2;have I4:Inv X pins σ H2 { s2 with heap:=s2.heap.push { cls:=.type "slice",data:=.fields #[.none,.none,.int (-1) t] } }:=I2.kept (t':=s2.toks) λb ob q=>xA2 _ q
 obtain⟨its,r,ht,hz⟩:=I4.list hx;have hlen:=r.length;show wpAny (model X.prog X.w) X.A (subscriptTail e _ (.ref a) (.ref s2.heap.objs.size)) (EP X pins σ Q) X.xe { s2 with heap:=s2.heap.push { cls:=.type "slice",data:=.fields #[.none,.none,.int (-1) t] } };refine tail_any (ops:=[.ref a,.ref s2.heap.objs.size]) ht.isList.typeIs slot_list_getitem.lookup ?_ (by with_unfolding_all rfl);refine wpAny_getItem_list_slice ht.isList (Heap.IsSliceOf.new ..) .none .none (.int (-1) t) (by simp) ?_ (by rw[xA5];omega);rw[PySem.W.krv_pick];refine⟨.ref _,_,I4.laid (t':=s2.toks) (o:=.lst xs.reverse) (λb ob q=>xA2 _ q) (xA4 _) ?_,rfl,q _ (I4.hok.fresh (xA4 _))⟩;exact⟨by rw[List.length_reverse];exact hz,its.reverse,0,r.reverse,xA6 _ rfl⟩
theorem zdk:∀ {bs:List Bool} {us:List Value},Vals (bs.map V.bl) us->us=bs.map Value.bool
 | [],_,.nil=>rfl
 |b::bs,_,.cons r t=>by cases r;rw[zdk t];rfl
theorem zfU(bs:List Bool):(List.range bs.length).all (λi=>bs.getD i true)=bs.all id:=by
 induction bs with
 |nil=>rfl
 |cons b bs ih=>
  rw[xB8,List.range_succ_eq_map,List.all_cons,List.all_cons,List.all_map];show((b::bs).getD 0 true&&_)=_;rw[List.getD_cons_zero];congr 1
noncomputable def yiB(K:PySem.W.Frag)(f:List Bool->Bool):List V->Hp->VK->Prop:=λxs H Q=>∃a bs,xs=[.ref a]/\SqL K H a (bs.map V.bl)/\Q (.bl (f bs)) H
theorem yeC{P:Program}{w:World}{A:Around}{bs:List Bool}:TruthOf P w A (λi v=>(bs.map Value.bool).toArray[i]?=some v) (λi=>bs.getD i true):=by
 intro i v s Q E hv q;have hv':bs[i]?.map Value.bool=some v:=by simpa using hv
 cases e:bs[i]? with
 |none=>rw[e]at hv';cases hv'
 |some b=>
  rw[e]at hv';cases hv';have e2:bs.getD i true=b:=by simp[List.getD,e]
  have q':Q (bs.getD i true) s:=q;rw[e2]at q';exact wpAny_truthy_bool q'
theorem zcB(hc:X.calm=true):yb0 X (.builtin "all") (yiB X.K λbs=>bs.all id):=by
 intro pins s σ H xs us Q I r h;obtain⟨a,bs,rfl,ha,q⟩:=h;obtain⟨u,rfl,rx⟩:=zcx r;cases rx;obtain⟨its,r1,p1,z1⟩:=I.list ha;have e:=zdk r1;subst e;refine call_all_walk (wpAny_pyIter_list p1.isList ?_);have hh:X.A.in1.handled=none:=I.ok.hd hc;have ne:a≠s.heap.objs.size:=λz=>by obtain⟨o,n,e,_⟩:=p1;have l:s.heap.objs.size>=Nat.succ a:=xAc e;have z':@Eq Nat a s.heap.objs.size:=z;omega
 refine⟨_,_,_,_,_,_,_,rfl,Walks.list hh s.heap.objs.size a ne _,⟨⟨_,xA6 _ rfl,rfl,rfl⟩,p1.isList.push _⟩,yeC,λh' tk k=>?_⟩;have I1:Inv X pins σ H { s with heap:=h',toks:=tk }:=I.kept λb o e=>k b o (by simp only[xAJ];exact xAy (xAc e)) (xA2 _ e)
 refine⟨.bl _,H,I1,?_,q⟩;show Value.bool _=Value.bool _;congr 1;have:=zfU bs
 simpa using this
noncomputable def Itd(hi:Int)(n:Nat):It:=⟨λi _=>i<n,λi H x H'=>H'=H/\x = .int (hi-i),λi _=>n<=i⟩
theorem yd5{P:Program}{w:World}{K:PySem.W.Frag}{tg:Expr}(it:Addr)(hi:Int)(n:Nat):Turn P w K tg (Itd hi n) [it] it (λi h=>IsRangeIter h it (hi+(i:Nat)*(-1)) ((n:Int)-(i:Nat)) (-1)) where
 mem:=by simp
 obj:=λi h st b hb=>by
  have e:b=it:=by simpa using hb
  subst e;exact⟨_,st,λv z=>by have z':Data.fields _=Data.cell v:=z;cases z'⟩
 keep:=λi h h' st k=>k it (by simp) _ st
 item:=by
  intro X hP hw hK hc i pins s σ H E I hf st hg;subst hP hw hK;obtain⟨f0,f1,f2,f3,f4,f5⟩:=hf it (by simp);have W:=Walks.range (prog:=X.prog) (w:=X.w) (I.ok.hd hc) it hi (-1) n;refine W.item i s _ _ hg st λv h' tk hv st' kk=>?_
  obtain⟨t,rfl⟩:=hv;have I1:Inv X pins σ H { s with heap:=h',toks:=tk }:=I.turned (λb o hb e=>kk b o (by simpa using hb) e) f0 f1 f3 f4 f5;refine⟨_,rfl,zfA (s:={ s with heap:=h',toks:=tk }) (n:="range_iterator") st' rfl rfl #[] ⟨.int (hi-i),H,I1,⟨t,?_⟩,⟨rfl,rfl⟩,st',λb hb=>(hf b hb).1⟩⟩;congr 1;omega
 done:=by
  intro X hP hw hK hc i pins s σ H E I hf st hg;subst hP hw hK;obtain⟨f0,f1,f2,f3,f4,f5⟩:=hf it (by simp);exact wpAny_pyNext_range_end (I.ok.hd hc) st (by have:n<=i:=hg;omega) λh' eb=>⟨rfl,I.turned (t':=s.toks) (λb o hb e=>eb b o hb e) f0 f1 f3 f4 f5⟩
 self:=λ_ _ _ _ _ st h=>wpAny_pyIter_rangeiter st h
theorem zdY{hi:Int}{n:Nat}:Seqs (Itd hi n) n (λ_=>True) (λi x H H'=>H'=H/\x = .int (hi-i)) :=
 ⟨λi H hi _=>hi,λH _=>xA4 _,λi H x H' hi _ q=>q⟩
noncomputable def ziv(ta:TA):TI:=λσ H R=>ta σ H λvs H1=>∃i j:Int,vs=[.int i,.int j,.int (-1)]/\(-(2^62)<=i/\i<2^62/\-(2^62)<=j/\j<2^62)/\R (Itd i (i-j).toNat) H1
theorem yhI{a b c:Expr}{ta:TA}{tg:Expr}{p pos:Pos}(hg:Gl X "range")(hm:X.mg "range"=none)(ha:PA X [a,b,c] ta)(hs:starEach [a,b,c] X.env=(false,eval a X.env)::starEach [b,c] X.env:=by rfl)(hs2:(backTo pos (starEach [b,c] X.env)).any (·.1)=false:=by rfl) :
  PI X tg (.Call (.Name "range" p) [a,b,c] [] pos) (ziv ta):=by
 intro pins s σ H R I h;refine Call_ (ybE I hg hm boot_range (xAP (thn (ha pos pins s σ H _ I h) λus s1 ⟨vs,H1,I1,r1,q1⟩=>?_) hs hs2));obtain⟨i,j,e,⟨b1,b2,b3,b4⟩,q⟩:=q1;subst e;cases r1 with
 |cons r rr=>
  cases rr with
  |cons r' rr=>
   cases rr with
   |cons r'' rr=>
    cases rr;obtain⟨t,rfl⟩:=r;obtain⟨t',rfl⟩:=r';obtain⟨t'',rfl⟩:=r'';refine call_range_3 #[] ?_ (.inl (PyProof.noPylong_small #[]));refine wpAny_pyIter_range (IsRange.new ..) (PySem.W.small_down b1 b2 b3 b4) ?_;generalize hG:s1.heap.push { cls:=.type "range",data:=.fields #[.int i t,.int j t',.int (-1) t''] }=G;have I2:Inv X pins σ H1 { s1 with heap:=G }:=I1.kept (t':=s1.toks) λb o e=>hG ▸ xA2 _ e
    refine⟨G.objs.size,[G.objs.size],_,_,H1,rfl,I2.kept (t':=s1.toks) λb o e=>xA2 _ e,yd5 _ i (i-j).toNat,?_,λb hb=>?_,q⟩
    ·have e1:i+((0:Nat):Int)*(-1)=i:=by simp
     have e2:(((i-j).toNat:Nat):Int)-((0:Nat):Int)=Builtin.Range.rangeSize i j (-1):=by rw[PySem.W.rangeSize_downNat];simp
     show IsRangeIter _ _ (i+((0:Nat):Int)*(-1)) ((((i-j).toNat:Nat):Int)-((0:Nat):Int)) (-1);rw[e1,e2];exact xA6 _ rfl
    ·have e:b=G.objs.size:=by simpa using hb
     subst e;exact I2.fpOk (xA4 _) (I2.hok.fresh (xA4 _))
noncomputable def tRng(ta:TA):TE:=λσ H Q=>ta σ H λvs H1=>∃j:Int,vs=[.int j]/\∀p,H1 p=none->Q (.ref p) (upd H1 p (.rng 0 j))
theorem zdZ{a:Expr}{ta:TA}{p pos:Pos}(hg:Gl X "range")(hm:X.mg "range"=none)(ha:PA X [a] ta)(hs:starEach [a] X.env=[(false,eval a X.env)]:=by rfl):PE X (.Call (.Name "range" p) [a] [] pos) (tRng ta):=by
 intro pins s σ H Q I h;refine Call_ (ybE I hg hm boot_range (xAP (thn (ha pos pins s σ H _ I h) λus s1 ⟨vs,H1,I1,r1,q1⟩=>?_) hs rfl));obtain⟨j,e,q⟩:=q1;subst e;cases r1 with
 |cons r rr=>
  cases rr;obtain⟨t,rfl⟩:=r;exact call_range_1 ⟨.ref _,_,I1.laid (o:=.rng 0 j) (λb o e=>xA2 _ e) (xA4 _) ⟨_,_,_,xA6 _ rfl⟩,rfl,q _ I1.fresh⟩
noncomputable def intsFrom(lo:Int)(n:Nat):List V:=(List.range n).map λ(i:Nat)=>V.int (lo+(i:Int))
theorem ycP:∀ {xs:List V} {us:List Value},xs.length=us.length->(∀(i:Nat) x u,xs[i]?=some x->us[i]?=some u->RelV x u)->Vals xs us
 | [],[],_,_=>.nil
 | [],_::_,h,_=>by simp at h
 |_::_,[],h,_=>by simp at h
 |x::xs,u::us,h,g=>.cons (g 0 x u rfl rfl) (ycP (by simpa using h) λi y v e1 e2=>g (i+1) y v (by simpa using e1) (by simpa using e2))
theorem zdP{lo:Int}{n:Nat}{acc:Array Value}(h:ItemsOf (λi v=>∃t,v = .int (lo+i*1) t) acc n):Vals (intsFrom lo n) acc.toList:=by
 refine ycP (by simp[intsFrom,h.1]) λi x u e1 e2=>?_
 obtain⟨t,rfl⟩:=h.2 i u (by simpa using e2);have:x=V.int (lo+i):=by
  unfold intsFrom at e1;rw[xA9]at e1;cases hr:(List.range n)[i]? with
  |none=>rw[hr]at e1;cases e1
  |some j=>
   rw[hr]at e1;have:j=i:=by
    obtain⟨h1,h2⟩:=xAo.mp hr
    simpa using h2.symm
   subst this;exact(xAw e1).symm
 subst this;exact⟨t,by simp⟩
theorem ydx(hc:X.calm=true):yb0 X (.type "list") (λxs H Q=>∃p lo hi,xs=[.ref p]/\H p=some (.rng lo hi)/\(-(2^62)<=lo/\lo<2^62/\-(2^62)<=hi/\hi<2^62)/\(hi-lo).toNat<=sizeLine/\∀l,H l=none->Q (.ref l) (upd H l (.lst (intsFrom lo (hi-lo).toNat)))):=by
 intro pins s σ H xs us Q I r h;obtain⟨p,lo,hi,rfl,hp,⟨b1,b2,b3,b4⟩,hz,q⟩:=h;obtain⟨u,rfl,rx⟩:=zcx r;cases rx;obtain⟨t,u,v,e⟩:=I.hok p _ hp;refine call_list_range (n:=(hi-lo).toNat) (I.ok.hd hc) e (small_one b1 b2 b3 b4) (by rw[rangeSize_one];split <;> omega) (by have:=sizeLine_eq;omega) λh' tk acc c k ho hi'=>?_
 have rv:=zdP hi';refine⟨.ref _,_,I.laid (t':=tk) k (xA4 _) (show zbh X.prog X.w _ h' _ (.lst (intsFrom lo (hi-lo).toNat)) from⟨?_,acc.toList,c,rv,by simpa using ho⟩),rfl,q _ I.fresh⟩
 simpa[intsFrom]using hz
noncomputable def Has(P:Program)(w:World)(K:PySem.W.Frag)(mg:Str->Option Value)(base:Heap)(n:Nat)(x:Str)(ps:List Str)(sp:Sp):Prop :=
 ∃f fd,FnOk P w K mg base CX0 n f fd ps sp/\zfs K fd ps []/\PySem.W.keepIn K (.ref f)=true/\mg x=some (.ref f)
theorem zad{n k:Nat}{x:Str}{ps:List Str}{sp:Sp}{e:Expr}{es:List Expr}{t:TA}{p pos:Pos}(h:Has X.prog X.w X.K X.mg X.base n x ps sp)(hr:Room k X.A)(hle:n<=k)(hg:Gl X x)(ha:PA X (e::es) t)
  (hdb:(x==("__debug__":Str))=false:=by decide) (he:starEach (e::es) X.env=(false,eval e X.env)::starEach es X.env:=by rfl) (hpl:(backTo pos (starEach es X.env)).any (·.1)=false:=by rfl) :
  PE X (.Call (.Name x p) (e::es) [] pos) (yhW sp [] E0 t):=by
 obtain⟨f,fd,F,B,kp,m⟩:=h;exact yhp F (hr.mono hle) hg m kp B .nil yiG ha hdb he hpl
theorem yaO{c:TT}{tb:TS}{D:Ends}{σ:St}{H:Hp}(Pv:St->Hp->Prop)(μ:St->Hp->Nat)(h0:Pv σ H)
  (hs:∀σ H,Pv σ H->c σ H λb H1=>if b=true then ∃N:St->Hp->Prop,(∀σ' H',N σ' H'->∃m',m' < μ σ H/\m'=μ σ' H'/\Pv σ' H')/\tb { D with nx:=N,ct:=N,bk:=D.nx } σ H1 else D.nx σ H1):yhg c tb D σ H:=by
 refine⟨λm σ H=>m=μ σ H/\Pv σ H,⟨_,rfl,h0⟩,?_⟩;rintro m σ H ⟨rfl,p⟩;exact hs σ H p
end
end L2
end
section
-- text: ExtG
namespace L2
open PySem PySem.Spec PyProof.Rows
section
variable {X:Cx}
theorem ybl:bootBuiltins "list"=some (.type "list"):=by decide +kernel
theorem zap:bootBuiltins "tuple"=some (.type "tuple"):=by decide +kernel
theorem ycT:bootBuiltins "int"=some (.type "int"):=by decide +kernel
theorem ycO:bootBuiltins "abs"=some (.builtin "abs"):=by decide +kernel
theorem ycR:bootBuiltins "min"=some (.builtin "min"):=by decide +kernel
theorem zc3:bootBuiltins "max"=some (.builtin "max"):=by decide +kernel
theorem zfb(i:Int)(t:Tok):RelV (.int i) (.int i t):=⟨t,rfl⟩
theorem yen{es:List Expr}{k:Nat}{t:TGs}{n:Nat}{pos:Pos}{K:PySem.W.Frag}(hK:X.K=K)(hc:X.calm=true)(h:PGs X es t)
  (hn:(assignEach es X.env).length=n:=by rfl) (hst:(assignEach es X.env).findIdx? (·.1)=none:=by rfl):PG X (.Tuple es k pos) (gTup K n t):=hK ▸ zaX hc h hn hst
end
end L2
end
section
-- text: ExtH
namespace L2
open PySem PySem.Spec PyProof.Rows
theorem zgf{prog:Program}{w:World}{A:Around}{E:Value->Shared->Prop}{s:Shared}{a:Addr}{xs:Array Value}{k:Nat}{sl:Array (Option Value)}{u:Tok}{Q:Value->Shared->Prop}
  (hx:s.heap.get? a=some { cls:=.type "list",dict:=none,data:=.seq xs k,slots:=sl }) (hA:A.handled=none)
  (h:∀h' tk e,Heap.NewExcOf s.heap h' e "AttributeError"->E (.ref e) { s with heap:=h',toks:=tk }) :
  wpAny (model prog w) A (getAttrBy (.ref a) (.str "keys" u) false) Q E s:=by
 have hmiss:typeLookup (.type "list") "keys"=pure none:=by rw[typeLookup_type,xBd];kernel_rfl
 obtain⟨hp,g,d,tk,os⟩:=s;have hT:∀tk',(⟨hp,g,d,tk',os⟩:Shared).TypeIs (.ref a) "list":=λ_=>⟨_,hx,rfl⟩
 have f1:=sub_AttributeError;have f3:=F.slot_list_getattribute.lookup;have f4:=F.slot_list_getattribute.bind (.ref a);have f5:=am_list_getattr_none;unfold getAttrBy
 repeat (any_goals (first|assumption|exact hT _|((with_reducible show wpAny _ _ (call (Value.builtin "list.__getattribute__") _ _) _ _ _);refine call_meets F.slot_list_getattribute (hT _) am_entry_list_getattribute (F.args_list_getattribute_2 _ _) (meets_getattribute_miss_list a xs k sl "keys" _ hmiss ∅) ⟨hx,hA,λh' tk' e hx'=>?_⟩)|wp_step))
 obtain⟨t',u',he⟩:=hx'.there;show wpAny _ _ (getattributeRaised _ _ _ _ _ _ _) _ _ _;unfold getattributeRaised
 repeat (any_goals (first|assumption|wp_step))
 exact h _ _ _ hx'.of
theorem yfJ{prog:Program}{w:World}{A:Around}{E:Value->Shared->Prop}{s:Shared}{a:Addr}{xs:Array Value}{k:Nat}{sl:Array (Option Value)}{Q:Option Value->Shared->Prop}
  (hx:s.heap.get? a=some { cls:=.type "list",dict:=none,data:=.seq xs k,slots:=sl }) (hA:A.handled=none)
  (h:∀h' tk,(∀b o,s.heap.get? b=some o->h'.get? b=some o)->Q none { s with heap:=h',toks:=tk }) :
  wpAny (model prog w) A (getAttr? (.ref a) "keys") Q E s:=by
 have f1:=sub_AttributeError;unfold getAttr? getAttrBy?;refine xA0 (wpAny_mkText ?_);refine xA0 ?_;refine xBr ?_;refine zgf (by exact hx) hA λh' tk e ne=>?_
 obtain⟨oe,_,he,hc,_⟩:=ne.there;show wpAny _ _ (isInstance (.ref e) (.type "AttributeError") >>= _) _ _ _;refine xA0 (wpAny_isInstance ⟨_,he,hc⟩ f1 ?_);exact xA3 (h _ _ ne.keeps)
theorem zbL:entryFor table "dict.update.loop"=some Builtin.«dict.update.loop»:=entryFor_of_fast (by kernel_rfl)
theorem yaV:plainId "dict.update.loop"=true:=by decide +kernel
section
variable {prog:Program} {w:World} {K:Type} [DecidableEq K] {knd:KeyKind prog w K} {A:Around} {R:Result->Shared->Prop} {I ax d:Addr}
theorem yfy(hh:A.in1.handled=none)(items:Array Value)(more:List (K×Value))(hne:ax≠I)(hdI:d≠I)(hda:d≠ax)(hsz:items.size<=sizeLine)(hml:more.length=items.size)
  (tp:Nat->Addr) (hit:∀j,j<items.size->items[j]?=some (.ref (tp j))) (htd:∀j,j<items.size->tp j≠d/\tp j≠I) :
  ∀(k i:Nat) (s:Shared) (t:Tok) (kvs:List (K×Value)),items.size-i=k->i<=items.size->s.heap.IsListIter I ax i/\s.heap.IsList ax items->s.heap.DictOf knd d kvs->kvs.length<=i->
  (∀j kv,more[j]?=some kv->∃key,knd.is kv.1 key=true/\s.heap.IsTuple (tp j) #[key,kv.2])->
  (∀s',s'.heap.DictOf knd d (merged kvs (more.drop i))->(∀b o,b≠I->b≠d->s.heap.get? b=some o->s'.heap.get? b=some o)->(∃h' tk,s'={ s with heap:=h',toks:=tk })->R (.ok (.ret .none)) s')->
  codeAny (model prog w) A (.builtin "dict.update.loop" ⟨[.ref d,.ref I,.int (i:Int) t,.none],[]⟩) R s:=by
 have W:=Walks.list (prog:=prog) (w:=w) hh I ax hne items;intro k
 induction k with
 |zero=>
  intro i s t kvs hk hi hst hd hkl hpairs hR;have hin:i=items.size:=by omega
  subst hin;refine codeAny_builtin zbL ?_;rw[xBp yaV _];show wpAny _ A.in1 (pyNext (.ref I) >>= _) _ _ s;refine xA0 (W.done s _ _ hst λh' tk hk'=>?_);have hm:more.drop items.size=[]:=List.drop_of_length_le ();rw[hm]at hR;have hd':h'.DictOf knd d kvs:=hd.at λo e=>hk' d o (by simp[hdI]) e
  refine xA3 (hR { s with heap:=h',toks:=tk } hd' (λb o h1 h2 e=>hk' b o (by simp[h1]) e) ⟨_,_,rfl⟩)
 |succ k ih=>
  intro i s t kvs hk hi hst hd hkl hpairs hR;have hlt:i<items.size:=by omega
  refine codeAny_builtin zbL ?_;rw[xBp yaV _];show wpAny _ A.in1 (pyNext (.ref I) >>= _) _ _ s;refine xA0 (W.item i s _ _ hlt hst λv h' tk hP hst' hk'=>?_);rw[hit i hlt]at hP;cases hP;obtain⟨kv,hkv⟩:∃kv,more[i]?=some kv:=⟨more[i]'(),xA7 ()⟩
  obtain⟨key,hkey,htup⟩:=hpairs i kv hkv;have htup':h'.IsTuple (tp i) #[key,kv.2]:=htup.at λo e=>hk' _ o (by simp[(htd i hlt).2]) e
  obtain⟨ot,hot,hoc,nn,hod⟩:=id htup';have hd':h'.DictOf knd d kvs:=hd.at λo e=>hk' d o (by simp[hdI]) e
  refine xA0 (xB9 ?_);refine xA0 (wpAny_tryCatch ?_);unfold Builtin.Dict.pairItems;refine xA0 (wpAny_typeOf ⟨_,hot,hoc⟩ ?_);rw[if_pos #[]];refine xA0 (wpAny_seqItems hot hod ?_);refine xA3 ?_;show wpAny _ A.in1 (holding [key,kv.2] (dictSet d key kv.2)) _ _ _;refine xB9 (wpAny_dictSet_pairs (hsz:=by omega) hkey hd' λh2 hd2 hs2=>?_);have step:more.drop i=kv::more.drop (i+1):=by
   rw[List.drop_eq_getElem_cons ()];congr 1;exact xAw ((xA7 ()).symm.trans hkv)
  refine xA3 ⟨plainId_quiet yaV _,ih (i+1) _ _ (stored kvs kv.1 kv.2) () hlt ?_ hd2 ?_ (λj kv' hj=>?_) λs' h1 h2' h3=>hR s' ?_ (λb o n1 n2 e=>h2' b o n1 n2 (hs2.extBut b o n2 (hk' b o (by simp[n1]) e))) ?_⟩
  ·exact W.frame _ _ _ hst' λb hb o e=>hs2.extBut b o (by simp only[xAa,xAk,xB0]at hb;rcases hb with rfl|rfl;exact Ne.symm hdI;exact Ne.symm hda) e
  ·have:=stored_length_le kvs kv.1 kv.2;omega
  ·obtain⟨key',a1,a2⟩:=hpairs j kv' hj;have hj':j<items.size:=by rw[<-hml];exact(xAo.mp hj).1
   exact⟨key',a1,(a2.at λo e=>hk' _ o (by simp[(htd j hj').2]) e).at λo e=>hs2.extBut _ o (htd j hj').1 e⟩
  ·rw[step];exact h1
  ·obtain⟨h4,tk4,rfl⟩:=h3;exact⟨_,_,rfl⟩
end
section
variable {X:Cx}
theorem Vals.getR:∀ {xs:List V} {us:List Value},Vals xs us->∀(j:Nat) x u,xs[j]?=some x->us[j]?=some u->RelV x u
 |_,_,.nil,j,x,u,e,_=>by simp at e
 |_::_,_::_,.cons r t,0,x,u,e1,e2=>by simp at e1 e2;subst e1 e2;exact r
 |_::_,_::_,.cons r t,j+1,x,u,e1,e2=>Vals.getR t j x u (by simpa using e1) (by simpa using e2)
noncomputable def yhs:List V->Hp->VK->Prop:=λxs H Q=>∃(a:Addr) (ts:List Addr) (kvs:List (Key×V)),xs=[.ref a]/\H a=some (.lst (ts.map V.ref))/\ts.length=kvs.length/\kvs.length<=sizeLine/\
 (∀(j:Nat) t kv,ts[j]?=some t->kvs[j]?=some kv->H t=some (.tup [kV kv.1,kv.2]))/\(kvs.map (·.1)).Nodup/\∀D,H D=none->Q (.ref D) (upd H D (.dK kvs))
theorem yde{P:Program}{w:World}{pins:List (Addr×Obj)}{σ:St}{H:Hp}{s:Shared}(I:Inv X pins σ H s):∀(ts:List Addr) (kvs:List (Key×V)),ts.length=kvs.length->(∀(j:Nat) t kv,ts[j]?=some t->kvs[j]?=some kv->H t=some (.tup [kV kv.1,kv.2]))->
  ∃vs:List (Key×Value),KV kvs vs/\vs.length=ts.length/\∀(j:Nat) kv t,vs[j]?=some kv->ts[j]?=some t->∃key,(zaK P w).is kv.1 key=true/\s.heap.IsTuple t #[key,kv.2]
 | [],[],_,_=>⟨[],.nil,rfl,λj kv t e=>by simp at e⟩
 | [],_::_,h,_=>by simp at h
 |_::_,[],h,_=>by simp at h
 |t::ts,kv::kvs,h,hp=>by
  obtain⟨vs,h1,h2,h3⟩:=yde I ts kvs (by simpa using h) λj t' kv' e1 e2=>hp (j+1) t' kv' (by simpa using e1) (by simpa using e2)
  obtain⟨its,r,p,_⟩:=I.tuple (SqT.of (hp 0 t kv rfl rfl));cases r with
  |cons ra rr=>
   cases rr with
   |cons rb rz=>
    cases rz;rename_i ka va;refine⟨(kv.1,va)::vs,.cons ⟨rfl,rb⟩ h1,by simp[h2],λj kv' t' e1 e2=>?_⟩;cases j with
    |zero=>
     simp at e1 e2;subst e1 e2;exact⟨ka,zgY ra,p⟩
    |succ j=>exact h3 j kv' t' (by simpa using e1) (by simpa using e2)
theorem zcY(hc:X.calm=true):yb0 X (.type "dict") yhs:=by
 intro pins s σ H xs us Q I r h;obtain⟨a,ts,kvs,rfl,ha,hl,hsz,hp,hn,q⟩:=h;obtain⟨u,rfl,rx⟩:=zcx r;cases rx;obtain⟨its,r1,p1,z1⟩:=I.list (SqL.of ha);refine callType_codes (Q₁:=λobj s₁=>obj = .ref s.heap.objs.size/\s₁={ s with heap:=s.heap.push { cls:=.type "dict",data:=.dict (List.toArray []) } }) F.kt_called_dict (F.kt_typeCall_dict_1 _) F.entry_dict_init (kt_code_dict_new _ ⟨rfl,rfl⟩) ?_;rintro obj s₁ ⟨rfl,rfl⟩;have hnew:(s.heap.push { cls:=.type "dict",data:=.dict (List.toArray []) }).DictOf (zaK X.prog X.w) s.heap.objs.size []:=Heap.DictOf.new s.heap;refine⟨hnew.typeIs,F.args_dict_init_2 _ _,?_⟩;unfold Builtin.«dict.__init__»;refine xA0 ?_;unfold Builtin.Dict.selfAndRest;refine xA0 (wpAny_notOrdered_dict hnew.typeIs ?_);show wpAny _ _ (pure (s.heap.objs.size,[Value.ref a])) _ _ _;refine xA3 ?_;show wpAny _ _ (Builtin.Dict.updateFrom "dict.__init__" s.heap.objs.size (.ref a) [] .none) _ _ _;unfold Builtin.Dict.updateFrom;have hne:∀b o,s.heap.get? b=some o->b≠s.heap.objs.size:=λb o e z=>by have l:s.heap.objs.size>=Nat.succ b:=xAc e;have z':@Eq Nat b s.heap.objs.size:=z;omega
 obtain⟨vs,hKV,hvl,hvs⟩:=yde (P:=X.prog) (w:=X.w) I ts kvs hl hp;have hA:X.A.in1.in1.handled=none:=I.ok.hd hc;obtain⟨⟨ca,da,dta,sla⟩,na,hoa,hca,hda,hdt⟩:=id p1;dsimp only at hca hda hdt;subst hca hda hdt;have e1:(s.heap.push { cls:=.type "dict",data:=.dict (List.toArray []) }).get? a=some { cls:=.type "list",dict:=none,data:=.seq its.toArray na,slots:=sla }:=xA2 _ hoa;refine xA0 (wpAny_typeOf ⟨_,e1,rfl⟩ ?_);dsimp only;rw[if_pos #[]];refine xA0 (yfJ e1 hA λh1 tk1 hk1=>?_);rw[if_pos (show(none:Option Value).isNone=true from rfl)];refine xA0 (xBc ?_);have e2:h1.IsList a its.toArray:=⟨_,hk1 _ _ e1,rfl,na,rfl⟩
 refine xA0 (wpAny_pyIter_list e2 ?_);have hN:s.heap.objs.size<h1.objs.size:=xAc (hk1 _ _ (xA6 _ rfl));have hI:∀b o,h1.get? b=some o->b≠h1.objs.size:=λb o e z=>by have l:h1.objs.size>=Nat.succ b:=xAc e;have z':@Eq Nat b h1.objs.size:=z;omega
 have kp:∀b o,s.heap.get? b=some o->(h1.push { cls:=.type "list_iterator",data:=.fields #[.ref a,.int 0 0] }).get? b=some o:=λb o e=>xA2 _ (hk1 _ _ (xA2 _ e))
 have hr1:=r1.length;have hlen:its.toArray.size=ts.length:=by rw[xA5,<-hr1,xA1]
 have hti:∀j,j<its.toArray.size->its.toArray[j]?=some (.ref (ts.getD j 0)):=by
  intro j hj;rw[hlen]at hj;have hj2:j<its.length:=by rw[<-hr1,xA1];exact hj
  rw[List.getElem?_toArray,xA7 hj2];have g:=Vals.getR r1 j (.ref (ts.getD j 0)) its[j] (by rw[xA9,xA7 hj];simp[List.getD,hj]) (xA7 hj2);exact congrArg some g
 have htu:∀j,j<its.toArray.size->∃o,s.heap.get? (ts.getD j 0)=some o:=by
  intro j hj;rw[hlen]at hj;have hj2:j<vs.length:=by rw[hvl];exact hj
  obtain⟨key,_,o,ho,_⟩:=hvs j vs[j] (ts.getD j 0) (xA7 hj2) (by simp[List.getD,hj]);exact⟨o,ho⟩
 refine xA3 ⟨plainId_quiet yaV _,?_⟩;refine yfy (knd:=zaK X.prog X.w) (A:=X.A.in1) (I:=h1.objs.size) (ax:=a) (d:=s.heap.objs.size) hA its.toArray vs (hI _ _ (hk1 _ _ e1)) (xAy hN) (Ne.symm (hne _ _ hoa)) (by rw[hlen,hl];exact hsz) (by rw[hvl,hlen]) (λj=>ts.getD j 0) hti
  (λj hj=>by obtain⟨o,ho⟩:=htu j hj;exact⟨hne _ _ ho,hI _ _ (hk1 _ _ (xA2 _ ho))⟩) _ 0 _ _ [] rfl (xB1 _) ⟨⟨_,xA6 _ rfl,rfl,rfl⟩,e2.push _⟩ ?_ (xA4 _) ?_ ?_
 ·exact(hnew.at λo e=>hk1 _ _ e).push _
 ·intro j kv hj;have hj2:j<ts.length:=by rw[<-hvl];exact(xAo.mp hj).1
  obtain⟨key,k1,k2⟩:=hvs j kv (ts.getD j 0) hj (by simp[List.getD,hj2]);exact⟨key,k1,k2.at λo e=>kp _ _ e⟩
 ·rintro s' hd hk ⟨h',tk,rfl⟩;have hkeys:vs.map (·.1)=kvs.map (·.1):=(KV.keys hKV).symm;rw[List.drop_zero,merged_nil_of_nodup vs (by rw[hkeys];exact hn)]at hd;refine⟨rfl,.ref s.heap.objs.size,_,I.laid (a:=s.heap.objs.size) (o:=.dK kvs) (t':=tk) (h':=h') (λb o e=>hk b o (hI _ _ (hk1 _ _ (xA2 _ e))) (hne _ _ e) (kp _ _ e)) (xA4 _) ⟨hsz,beq_eq_false_iff_ne.mpr (Ne.symm (xAy I.big)),vs,hKV,hd⟩,rfl,q _ (I.hok.fresh (xA4 _))⟩
end
end L2
end
section
-- text: ExtI
namespace L2
open PySem PySem.Spec PyProof.Rows
section
variable {X:Cx}
theorem yd4{A:Around}{s:Shared}:∀ {xs:List Int} {us:List Value},Vals (xs.map V.int) us->∀ {ys:List Int} {vs:List Value},Vals (ys.map V.int) vs->∀j (h1:j<us.toArray.size) (h2:j<vs.toArray.size),SeqAt.EqAt A s us.toArray[j] vs.toArray[j] (xs.getD j 0==ys.getD j 0):=by
 intro xs us r1 ys vs r2 j h1 h2;have l1:=r1.length;have l2:=r2.length;rw[xA1]at l1 l2;rw[xA5]at h1 h2;have g1:=Vals.getR r1 j (.int (xs.getD j 0)) us[j] (by rw[xA9,xA7 ()];simp[List.getD,show j<xs.length by omega]) (xA7 h1);have g2:=Vals.getR r2 j (.int (ys.getD j 0)) vs[j] (by rw[xA9,xA7 ()];simp[List.getD,show j<ys.length by omega]) (xA7 h2);obtain⟨t1,e1⟩:=g1;obtain⟨t2,e2⟩:=g2;rw[List.getElem_toArray,List.getElem_toArray,e1,e2];exact SeqAt.EqAt.int_int _ t1 _ t2
theorem zd7{xs ys:List Int}:((List.range (min xs.length ys.length)).all (λj=>xs.getD j 0==ys.getD j 0)&&xs.length==ys.length)=decide (xs=ys):=by
 rw[Bool.eq_iff_iff,xAv,xAT,decide_eq_true_iff,beq_iff_eq];constructor
 ·rintro⟨h1,h2⟩;refine xAS h2 λj a b=>?_
  have:=h1 j (xAu.mpr ())
  simpa[List.getD,a,b]using this
 ·rintro rfl;exact⟨λj _=>by simp,rfl⟩
noncomputable def rEqT(K:PySem.W.Frag)(neg:Bool):R2:=λx y H Q=>∃(a b:Addr) (xs ys:List Int),x = .ref a/\y = .ref b/\SqT K H a (xs.map V.int)/\SqT K H b (ys.map V.int)/\Q (.bl (if neg then !decide (xs=ys) else decide (xs=ys))) H
theorem zfQ(hu:X.A.units<cLine):OpR X (compareOp .Eq) (rEqT X.K false):=by
 intro pins s σ H x y v u Q I rx ry h;obtain⟨a,b,xs,ys,rfl,rfl,ha,hb,q⟩:=h;cases rx;cases ry;obtain⟨us,r1,p1,z1⟩:=I.tuple ha;obtain⟨vs,r2,p2,z2⟩:=I.tuple hb;refine SeqAt.eq_tupleAt p1 p2 hu (yd4 r1 r2) ?_;have l1:=r1.length;have l2:=r2.length;rw[xA1]at l1 l2;rw[xA5,xA5,<-l1,<-l2,zd7];exact⟨.bl _,H,I,rfl,q⟩
theorem zfO(hu:X.A.units<cLine):OpR X (compareOp .NotEq) (rEqT X.K true):=by
 intro pins s σ H x y v u Q I rx ry h;obtain⟨a,b,xs,ys,rfl,rfl,ha,hb,q⟩:=h;cases rx;cases ry;obtain⟨us,r1,p1,z1⟩:=I.tuple ha;obtain⟨vs,r2,p2,z2⟩:=I.tuple hb;refine SeqAt.RcNeAt.tuples (e:=λj=>xs.getD j 0==ys.getD j 0) p1 p2 hu (yd4 r1 r2) _ _ _ _ ?_;have l1:=r1.length;have l2:=r2.length;rw[xA1]at l1 l2;rw[xA5,xA5,<-l1,<-l2,zd7];exact⟨.bl _,H,I,rfl,q⟩
end
end L2
end
section
-- text: ExtJ
namespace L2
open PySem PySem.Spec PyProof.Rows
section
variable {X:Cx} {pos:Pos}
noncomputable def ziq(i j k:Nat)(ta:TA):TS:=λD σ H=>ta σ H λvs H1=>∃u v w,vs=[u,v,w]/\D.nx (((σ.set i (some u)).set j (some v)).set k (some w)) H1
theorem zel{i j k:Nat}{x y z:Str}{a b c:Expr}{ta:TA}{px py pz pt:Pos}{kt k2 pt2}(hc:X.calm=true)(hN:X.N.Nodup)(hi:X.N[i]?=some x)(hj:X.N[j]?=some y)(hk:X.N[k]?=some z)(hij:i≠j/\i≠k/\j≠k)
  (hx:X.env.scope.names.lookup x=some .local) (hy:X.env.scope.names.lookup y=some .local) (hz:X.env.scope.names.lookup z=some .local) (ha:PA X [a,b,c] ta)
  (hw:swappedStores [.Tuple [.Name x px,.Name y py,.Name z pz] kt pt] (.Tuple [a,b,c] k2 pt2) X.env=pure (some [x,y,z]))
  (hs:swapsWithSole [.Tuple [.Name x px,.Name y py,.Name z pz] kt pt] (.Tuple [a,b,c] k2 pt2) pos.line X.env=pure false:=by rfl) :
  PS X (.Assign [.Tuple [.Name x px,.Name y py,.Name z pz] kt pt] (.Tuple [a,b,c] k2 pt2) pos) (ziq i j k ta):=by
 intro pins s σ H D I h;rw[exec_Assign_arm];refine xA0 (wpAny_standAt ?_);rw[hs];refine xA0 (xA3 ?_);rw[if_neg #[]];refine xA0 (Tuple_ (thn (ha _ pins s σ H _ I h) λus s1 ⟨vs,H1,I1,r1,q1⟩=>?_));obtain⟨v1,v2,v3,e1,q1⟩:=q1;subst e1;obtain⟨u1,u2,u3,rfl,r1',r2',r3'⟩:∃u1 u2 u3,us=[u1,u2,u3]/\RelV v1 u1/\RelV v2 u2/\RelV v3 u3:=by
  cases r1 with
  |cons p q=>
   cases q with
   |cons p' q'=>
    cases q' with
    |cons p'' q''=>
     cases q'';exact⟨_,_,_,rfl,p,p',p''⟩
 refine xAs ?_ (by show 3<=sizeLine;decide);have I2:Inv X pins σ H1 { s1 with heap:=s1.heap.push { cls:=.type "tuple",data:=.seq [u1,u2,u3].toArray } }:=I1.kept (t':=s1.toks) λb o e=>xA2 _ e
 rw[hw];refine xA0 (xA3 ?_);show wpAny (model X.prog X.w) X.A (do rule "assign.swapped-stores";let items <-unpackItems (.ref s1.heap.objs.size) 3 none;assignInOrder [λv=>bindName X.env z v,λv=>bindName X.env y v,λv=>bindName X.env x v] items.reverse;pure Flow.next) _ _ _;refine xA0 (xBc (xA0 (unpackItems_tuple (items:=#[u1,u2,u3]) (I.ok.hd hc) (IsTup.new s1.heap _) λh' hx'=>?_)));have I3:=I2.kept (h':=h') (t':=s1.toks) λb o e=>hx' b o (xAy (xAc e)) e
 show wpAny _ _ (assignInOrder [λv=>bindName X.env z v,λv=>bindName X.env y v,λv=>bindName X.env x v] [u3,u2,u1] >>= λ_=>pure Flow.next) _ _ _;refine xA0 (assignInOrder_cons (wpAny_bindName (ya1 I3 hN hk (.inl hz) r3' (λs2 I4=>?_) (.inr hz))));refine assignInOrder_cons (wpAny_bindName (ya1 I4 hN hj (.inl hy) r2' (λs2 I5=>?_) (.inr hy)));refine assignInOrder_cons (wpAny_bindName (ya1 I5 hN hi (.inl hx) r1' (λs3 I6=>assignInOrder_nil (xA3 ?_)) (.inr hx)));have e:((σ.set k (some v3)).set j (some v2)).set i (some v1)=((σ.set i (some v1)).set j (some v2)).set k (some v3):=by
  rw[List.set_comm (some v3) (some v2) (Ne.symm hij.2.2),List.set_comm (some v3) (some v1) (Ne.symm hij.2.1),List.set_comm (some v2) (some v1) (Ne.symm hij.1)]
 rw[e]at I6;exact⟨_,H1,I6,q1⟩
section
variable {K:PySem.W.Frag}
theorem ydG(h:X.K=K):IxR X (rIxT K):=h ▸ zax
theorem zfq(h:X.K=K):OpR X (compareOp .In) (rIn K false):=h ▸ zf5
theorem zf8(h:X.K=K)(hu:X.A.units<cLine):OpR X (compareOp .Eq) (rEqT K false):=h ▸ zfQ hu
end
end
end L2
end
section
-- text: ExtK
namespace L2
open PySem PySem.Spec PyProof.Rows
open MeetsSeq MeetsSeq2 MeetsSeq3
theorem zcz:fillsNumberSlot (.type "tuple") "mul"=pure false :=
 PySem.fillsNumberSlot_seq (id:="tuple.__mul__") (r:=some (.builtin "tuple.__rmul__")) PySem.F.slot_tuple_mul.lookup ∅ PySem.F.slot_tuple_rmul.lookup ∅
theorem zd6:seqRepeat? (.type "tuple")=pure (some (.builtin "tuple.__mul__")):=by
 unfold seqRepeat?;rw[PySem.seqSlot_of (T:="tuple") (name:="__mul__") (id:="tuple.__mul__") PySem.F.slot_tuple_mul.lookup ∅,PySem.seqSlot_of (T:="tuple") (name:="__rmul__") (id:="tuple.__rmul__") PySem.F.slot_tuple_rmul.lookup ∅];rfl
theorem zc8(a:Int)(t:Tok)(l:Addr)(items:Array Value)(n:Nat)(dd:Option Addr)(sl:Array (Option Value)) :
  Meets (Builtin.«int.__rmul__» ⟨[.int a t,.ref l],[]⟩) (λ_ R s=>s.heap.get? l=some { cls:=.type "tuple",dict:=dd,data:=.seq items n,slots:=sl }/\R (.ok (.ret Value.notImplemented)) s) :=
 .of_wp λprog w A R s h=>by obtain⟨hp,g,d,tk,os⟩:=s;obtain⟨hl,h⟩:=h;wp_walk;exact⟨_,rfl,h⟩
theorem zeL(l:Addr)(items:Array Value)(n:Nat)(dd:Option Addr)(sl:Array (Option Value))(u:Tok) :
  Meets (Builtin.«tuple.__mul__» ⟨[.ref l,.int 1 u],[]⟩) (λ_ R s=>s.heap.get? l=some { cls:=.type "tuple",dict:=dd,data:=.seq items n,slots:=sl }/\R (.ok (.ret (.ref l))) s) :=
 .of_wp λprog w A R s h=>by
  obtain⟨hp,g,d,tk,os⟩:=s;obtain⟨hl,h⟩:=h
  wp_walk
  exact⟨_,rfl,h⟩
theorem zen(l:Addr)(items:Array Value)(n:Nat)(dd:Option Addr)(sl:Array (Option Value))(u:Tok)(hne:items.isEmpty=false) :
  Meets (Builtin.«tuple.__mul__» ⟨[.ref l,.int 0 u],[]⟩) (λ_ R s=>s.heap.get? l=some { cls:=.type "tuple",dict:=dd,data:=.seq items n,slots:=sl }/\R (.ok (.ret (.ref s.heap.objs.size))) { s with heap:=s.heap.push { cls:=.type "tuple",data:=.seq (List.toArray []) } }) :=
 .of_wp λprog w A R s h=>by
  obtain⟨hp,g,d,tk,os⟩:=s;obtain⟨hl,h⟩:=h;have h0:(items.isEmpty||((0:Int)==1))=false:=by rw[hne];rfl
  have h1:(decide ((0:Int)<=0)||items.isEmpty)=true:=rfl
  wp_walk
  exact⟨_,rfl,h⟩
theorem zeD(l:Addr)(items:Array Value)(n:Nat)(dd:Option Addr)(sl:Array (Option Value))(x:Int)(u:Tok)(hne:items.isEmpty=false)(h2:2<=x)(h3:x<2^63)(hz:items.size*x<=(sizeLine:Int)) :
  Meets (Builtin.«tuple.__mul__» ⟨[.ref l,.int x u],[]⟩) (λ_ R s=>s.heap.get? l=some { cls:=.type "tuple",dict:=dd,data:=.seq items n,slots:=sl }/\R (.ok (.ret (.ref s.heap.objs.size))) { s with heap:=s.heap.push { cls:=.type "tuple",data:=.seq ((List.replicate x.toNat items).foldl (·++·) (List.toArray [])) } }) :=
 .of_wp λprog w A R s h=>by
  obtain⟨hp,g,d,tk,os⟩:=s;obtain⟨hl,h⟩:=h;have g0:(decide (x < -(2^63))||decide (x>=2^63))=false:=by simp;omega
  have g1:(items.isEmpty||(x==1))=false:=by rw[hne];simp;omega
  have g2:(decide (x<=0)||items.isEmpty)=false:=by rw[hne];simp;omega
  have hcap:¬ items.size*x>(2^63-1)/8:=by
   have:((sizeLine:Nat):Int)<=(2^63-1)/8:=by decide
   omega
  have hl2:Builtin.Tuple.tupleTooMany (items.size*x)=false:=by unfold Builtin.Tuple.tupleTooMany;simp;omega
  wp_walk
  rw[if_neg (by rw[g0];exact xAj)]
  wp_walk
  rw[if_neg (by rw[g1];exact xAj)]
  wp_walk
  rw[if_neg (by rw[g2];exact xAj)];dsimp only;rw[if_neg hcap,if_neg (by rw[hl2];exact xAj)];have hs:((List.replicate x.toNat items).foldl (·++·) (List.toArray [])).size<=sizeLine:=by
   have e:∀(k:Nat) (acc:Array Value),((List.replicate k items).foldl (·++·) acc).size=acc.size+k*items.size:=by
    intro k
    induction k with
    |zero=>intro acc;simp
    |succ k ih=>intro acc;rw[xBb,List.foldl_cons,ih,Array.size_append,Nat.succ_mul];omega
   rw[e];have h4:(items.size:Int)*x=((x.toNat*items.size:Nat):Int):=by rw[Int.natCast_mul,Int.toNat_of_nonneg (),Int.mul_comm]
   rw[h4]at hz;simp;omega
  unfold Builtin.Tuple.tupleExact;refine xA0 (xAs ?_ hs);exact xA3 ⟨_,rfl,h⟩
section
variable {X:Cx}
noncomputable def zid(K:PySem.W.Frag):R2:=λx y H Q=>∃(a:Addr) (k:Int) (xs:List V),x = .ref a/\y = .int k/\SqT K H a xs/\xs≠[]/\0<=k/\k<2^63/\xs.length*k.toNat<=sizeLine/\
 (k=1->Q (.ref a) H)/\(k≠1->∀p,H p=none->Q (.ref p) (upd H p (.tup (List.replicate k.toNat xs).flatten)))
theorem ydN:OpR X (binaryOp .Mult) (zid X.K):=by
 intro pins s σ H x y v u Q I rx ry h;obtain⟨a,k,xs,rfl,rfl,ha,hne,h0,h1,hz,q1,q2⟩:=h;cases rx;obtain⟨t,rfl⟩:=ry;obtain⟨its,r,⟨⟨cls,dd,data,sl⟩,ho,hc,n,hd⟩,z⟩:=I.tuple ha;simp only at hc hd;subst hc hd;have hl:=r.length;have hine:its.toArray.isEmpty=false:=by
  cases its with
  |nil=>cases r;exact absurd rfl hne
  |cons _ _=>rfl
 refine wpAny_binaryOp_repeat_ref (T:="tuple") (U:="int") #[] ⟨_,ho,rfl⟩ (λs'=>typeIs_int s' k t) zcz F.fills_int_mul F.slot_int_rmul zd6 F.slot_int_index.lookup
  (call_meets F.slot_int_rmul (typeIs_int s k t) F.entry_int_rmul (F.args_int_rmul_2 _ _) (zc8 k t a its.toArray n dd sl) ⟨ho,rfl,⟨_,ho,rfl⟩,?_⟩)
 by_cases e1:k=1
 ·subst e1;exact call_meets PySem.F.slot_tuple_mul ⟨_,ho,rfl⟩ PySem.F.entry_tuple_mul (PySem.F.args_tuple_mul_2 _ _) (zeL a its.toArray n dd sl t) ⟨ho,⟨.ref a,H,I,rfl,q1 rfl⟩⟩
 ·by_cases e0:k=0
  ·subst e0;refine call_meets PySem.F.slot_tuple_mul ⟨_,ho,rfl⟩ PySem.F.entry_tuple_mul (PySem.F.args_tuple_mul_2 _ _) (zen a its.toArray n dd sl t hine) ⟨ho,?_⟩;exact⟨.ref s.heap.objs.size,_,I.laid (t':=s.toks) (o:=.tup []) (λb ob q=>xA2 _ q) (xA4 _) ⟨xB1 _,[],.nil,IsTup.new _ _⟩,rfl,q2 e1 _ (I.hok.fresh (xA4 _))⟩
  ·have hz2:(its.toArray.size:Int)*k<=(sizeLine:Int):=by
    rw[xA5,<-hl];have h4:(xs.length:Int)*k=((xs.length*k.toNat:Nat):Int):=by rw[Int.natCast_mul,Int.toNat_of_nonneg h0]
    rw[h4];omega
   refine call_meets PySem.F.slot_tuple_mul ⟨_,ho,rfl⟩ PySem.F.entry_tuple_mul (PySem.F.args_tuple_mul_2 _ _) (zeD a its.toArray n dd sl k t hine () h1 hz2) ⟨ho,?_⟩;have hnew:List.foldl (λx1 x2=>x1++x2) (List.toArray []) (List.replicate k.toNat its.toArray)=(List.replicate k.toNat its).flatten.toArray:=by
    have:=ycI its k.toNat [];rw[List.nil_append]at this;exact this
   rw[hnew];refine⟨.ref s.heap.objs.size,_,I.laid (t':=s.toks) (o:=.tup (List.replicate k.toNat xs).flatten) (λb ob q=>xA2 _ q) (xA4 _) ⟨by rw[zfJ,xAL];exact hz,_,r.rep k.toNat,IsTup.new _ _⟩,rfl,q2 e1 _ (I.hok.fresh (xA4 _))⟩
theorem yeJ(l b:Addr)(items2:Array Value)(n n2:Nat)(dd dd2:Option Addr)(sl sl2:Array (Option Value)) :
  Meets (Builtin.«tuple.__add__» ⟨[.ref l,.ref b],[]⟩) (λ_ R s=>s.heap.get? l=some { cls:=.type "tuple",dict:=dd,data:=.seq (List.toArray []) n,slots:=sl }/\s.heap.get? b=some { cls:=.type "tuple",dict:=dd2,data:=.seq items2 n2,slots:=sl2 }/\R (.ok (.ret (.ref b))) s) :=
 .of_wp λprog w A R s h=>by
  obtain⟨hp,g,d,tk,os⟩:=s;obtain⟨hl,hb,h⟩:=h;have hsub:isSubtype (.type "tuple") (.type "tuple")=pure true:=by rw[xBt];kernel_rfl
  wp_walk
  exact⟨_,rfl,h⟩
noncomputable def zhq(K:PySem.W.Frag):R2:=λx y H Q=>∃(a b:Addr) (xs ys:List V),x = .ref a/\y = .ref b/\SqT K H a xs/\SqT K H b ys/\xs.length+ys.length<=sizeLine/\
 (xs=[]->Q (.ref b) H)/\(xs≠[]->ys=[]->Q (.ref a) H)/\(xs≠[]->ys≠[]->∀p,H p=none->Q (.ref p) (upd H p (.tup (xs++ys))))
theorem zco:OpR X (binaryOp .Add) (zhq X.K):=by
 intro pins s σ H x y v u Q I rx ry h;obtain⟨a,b,xs,ys,rfl,rfl,ha,hb,hz,q0,q1,q2⟩:=h;by_cases hx:xs=[]
 ·subst hx;cases rx;cases ry;obtain⟨its,r1,⟨⟨cls,dd,data,sl⟩,ho,hc,n,hd⟩,_⟩:=I.tuple ha;obtain⟨its2,r2,⟨⟨cls2,dd2,data2,sl2⟩,ho2,hc2,n2,hd2⟩,_⟩:=I.tuple hb;simp only at hc hd hc2 hd2;subst hc hd hc2 hd2;cases r1;exact concat_meets ⟨_,ho,rfl⟩ ⟨_,ho2,rfl⟩ noFill_tuple_add seq_tuple_add PySem.F.slot_tuple_add PySem.F.entry_tuple_add (PySem.F.args_tuple_add_2 _ _) (yeJ a b its2.toArray n n2 dd dd2 sl sl2) ⟨ho,ho2,⟨.ref b,H,I,rfl,q0 rfl⟩⟩
 ·exact zhX pins s σ H _ _ v u Q I rx ry ⟨a,b,xs,ys,rfl,rfl,ha,hb,hx,hz,q1 hx,q2 hx⟩
end
end L2
end
section
-- text: ExtL
namespace L2
open PySem PySem.Spec PyProof.Rows
theorem ybX:Manifest.owners.lookup (String.ofList ['d','e','s','r','e','v','e','r'].reverse)=some Manifest.sig_reversed:=by kernel_rfl
theorem yaC:Slot "reversed" "__next__" "reversed.__next__" :=
 .of (owner:="reversed") (n:="__next__") (by rw[typeLookup_type,xBd];kernel_rfl) ∅ ∅ ∅
  (by first|exact .inl ∅|exact .inr ∅) (by rw[xBt];kernel_rfl)
theorem ybf:entryFor table "reversed.__next__"=some Builtin.«reversed.__next__»:=entryFor_of_tree (by kernel_rfl)
theorem za6(a:Value):argsOk "reversed.__next__" ⟨[a],[]⟩:=by
 unfold argsOk;rw[signature?_of (id:="reversed.__next__") (n:=['_','_','t','x','e','n','_','_']) (o:=['d','e','s','r','e','v','e','r']) (by kernel_rfl) ybX];kernel_rfl
theorem zbm:Slot "reversed" "__iter__" "reversed.__iter__" :=
 .of (owner:="reversed") (n:="__iter__") (by rw[typeLookup_type,xBd];kernel_rfl) ∅ ∅ ∅
  (by first|exact .inl ∅|exact .inr ∅) (by rw[xBt];kernel_rfl)
theorem zbW(a:Value):argsOk "reversed.__iter__" ⟨[a],[]⟩:=by
 unfold argsOk;rw[signature?_of (id:="reversed.__iter__") (n:=['_','_','r','e','t','i','_','_']) (o:=['d','e','s','r','e','v','e','r']) (by kernel_rfl) ybX];kernel_rfl
theorem yb1:entryFor table "reversed.__iter__"=some Builtin.«dict_keyiterator.__iter__» :=
 entryFor_alias (id':="dict_keyiterator.__iter__") (by kernel_rfl) (by first|rfl|decide +kernel|(unfold String.splitOn;simp +decide [String.splitOnAux])) ∅ (by kernel_rfl)
noncomputable def revT(l:Addr)(i:Int):Obj:={ cls:=.type "reversed",data:=.fields #[.ref l,rawInt i] }
noncomputable def ybL(h:Heap)(a l:Addr)(i:Int):Prop:=∃o,h.get? a=some o/\o.cls = .type "reversed"/\o.data = .fields #[.ref l,rawInt i]
section
variable {prog:Program} {w:World} {A:Around} {E:Value->Shared->Prop} {s:Shared}
theorem ybL.typeIs{a l:Addr}{i:Int}(x:ybL s.heap a l i):s.TypeIs (.ref a) "reversed":=let ⟨o,ho,hc,_⟩:=x;⟨o,ho,hc⟩
theorem ybL.at{h h':Heap}{a l:Addr}{i:Int}(x:ybL h a l i)(e:∀o,h.get? a=some o->h'.get? a=some o):ybL h' a l i:=let ⟨o,ho,r⟩:=x;⟨o,e _ ho,r⟩
theorem zd0{it l:Addr}{i:Int}{Q:Value->Shared->Prop}(hit:ybL s.heap it l i)(h:Q (.ref it) s):wpAny (model prog w) A (pyIter (.ref it)) Q E s:=by
 refine wpAny_pyIter_slot hit.typeIs zbm (xAF zbm hit.typeIs yb1 ?_ (zbW _));show wpAny _ _ (ret (.ref it)) _ _ s;exact xA3 ⟨_,rfl,"reversed",_,hit.typeIs,yaC.lookup,h⟩
theorem yfX{it l:Addr}{i:Nat}{items:Array Value}{x:Value}{Q:Option Value->Shared->Prop}(hit:ybL s.heap it l (i:Int))(hl:s.heap.IsTuple l items)(hx:items[i]?=some x)(hz:items.size<=sizeLine)
  (hQ:∀h' tk,ybL h' it l ((i:Int)-1)->Heap.SameBut it s.heap h'->Q (some x) { s with heap:=h',toks:=tk }):wpAny (model prog w) A (pyNext (.ref it)) Q E s:=by
 obtain⟨o,ho,hc,hd⟩:=id hit;have hi:i<items.size:=(Array.getElem?_eq_some_iff.mp hx).1;have hn:=ydf;unfold pyNext;refine xA0 (xBr (xAA (name:=Str.ofString "__next__") hit.typeIs yaC
  (xAF yaC hit.typeIs ybf ?_ (za6 _))))
 unfold Builtin.«reversed.__next__»;refine xA0 (xBf (a:=(Value.ref it,[])) rfl ?_)
 try dsimp only
 refine xA0 (xAU ho hd (x:=.ref l) rfl ?_);refine xA0 (xAU ho hd (x:=rawInt (i:Int)) rfl ?_);show wpAny _ _ (if (i:Int)<0 then _ else _) _ _ s;rw[if_neg ()];refine xA0 (wpAny_specialOf hl.typeIs slot_tuple_getitem.lookup ?_)
 try dsimp only
 rw[if_neg (show ¬ ((some (Value.builtin "tuple.__getitem__")).isNone=true) from xAj)];refine xA0 (wpAny_mkInt ?_);refine xA0 (xBr ?_);refine getItem_tuple (j:=i) hl () () (by rw[seqIndex_of () (),xAm]) hx ?_
 try dsimp only
 refine xA0 (xAU ho hd (x:=rawInt (i:Int)) rfl ?_)
 try dsimp only
 refine xA0 (xBs ho hd (by simp) ?_);refine xA3 ⟨x,rfl,xA3 (hQ _ _ ?_ (xBj ..))⟩;exact⟨_,xAY _ ho (Obj.isFreed_of_fields (xAI hd _)),(Obj.cls_mapFields ..).trans hc,by rw[xAI hd];simp⟩
theorem ygz{it l:Addr}{Q:Option Value->Shared->Prop}(hh:A.handled=none)(hit:ybL s.heap it l (-1))
  (hQ:∀h' tk,Heap.ExtBut it s.heap h'->Q none { s with heap:=h',toks:=tk }):wpAny (model prog w) A (pyNext (.ref it)) Q E s:=by
 obtain⟨o,ho,hc,hd⟩:=id hit;unfold pyNext;refine xA0 (xBr (xAA (name:=Str.ofString "__next__") hit.typeIs yaC
  (xAF yaC hit.typeIs ybf ?_ (za6 _))))
 unfold Builtin.«reversed.__next__»;refine xA0 (xBf (a:=(Value.ref it,[])) rfl ?_)
 try dsimp only
 refine xA0 (xAU ho hd (x:=.ref l) rfl ?_);refine xA0 (xAU ho hd (x:=rawInt (-1)) rfl ?_);show wpAny _ _ (if (-1:Int)<0 then _ else _) _ _ s;rw[if_pos #[]];refine xA0 (xBc ?_);refine xA0 ?_;show wpAny _ _ (setField (.ref it) 1 (rawInt (-1)) >>= λ_=>setField (.ref it) 0 .none) _ _ s;refine xA0 (xBs ho hd (by simp) ?_);have h1:=xAY (Obj.mapFields (λvs=>vs.setIfInBounds 1 (rawInt (-1)))) ho (Obj.isFreed_of_fields (xAI hd _));refine xBs h1 (xAI hd _) (by simp) ?_;refine xA0 ?_;show wpAny _ _ (newExc (.type "StopIteration") [] >>= _) _ _ _;refine xA0 ?_;simp only[newExc,newTuple];refine xA0 (xAs ?_ (by size_fits));refine xA0 (m:=firstArgMember _ _) (xBf (a:=Value.none) (by first|rfl|(simp only[firstArgMember];rfl)) ?_);refine xAs ?_ (by size_fits);simp only[raiseNew];refine xA0 (wpAny_handled ?_)
 first|rw[show A.in1.handled=none from hh]|rw[hh]
 refine xA0 (xA3 (wpAny_throw ?_));refine xA0 (wpAny_isInstance (T:="StopIteration") (b:=true) ⟨_,xA6 _ rfl,rfl⟩ isSubtype_stop ?_);exact xA3 (hQ _ _ λb o' hb e=>xA2 _ (xA2 _ ((xAK _ _ (Ne.symm hb)).trans ((xAK _ _ (Ne.symm hb)).trans e))))
end
theorem zce:Slot "reversed" "__init__" "object.__init__" :=
 .of (owner:="object") (n:="__init__") (by rw[typeLookup_type,xBd];kernel_rfl) ∅ ∅ ∅
  (by first|exact .inl ∅|exact .inr ∅) (by rw[xBt];kernel_rfl)
theorem zfS:mroOf (.type "reversed")=pure [.type "reversed",.type "object"]:=by rw[mroOf_type];kernel_rfl
theorem zda:typeLookup (.type "reversed") "__new__"=pure (some (.builtin "reversed.__new__")):=by rw[typeLookup_type,xBd];kernel_rfl
theorem zcP:TypeCalled "reversed" "reversed.__new__" "object.__init__" :=
 ⟨∅,∅,⟨_,_,zfS⟩,madeBy_type zfS zda ∅,∅,by rw[xBt];kernel_rfl,zce⟩
theorem yd9(a:Value):checkTypeCall "reversed" ⟨[a],[]⟩=pure Unit.unit:=by kernel_rfl
theorem zeA(a:Value):checkBuiltinCall "reversed.__new__" ⟨[.type "reversed",a],[]⟩=pure Unit.unit:=by kernel_rfl
theorem ydp:entryFor table "reversed.__new__"=some Builtin.«reversed.__new__»:=entryFor_of_tree (by kernel_rfl)
theorem zhF:isSubtype (.type "reversed") (.type "reversed")=pure true:=by rw[xBt];kernel_rfl
theorem yfm(l:Addr)(xs:Array Value)(n:Nat)(dct:Option Addr)(sl:Array (Option Value))(hz:xs.size<=sizeLine) :
  Meets (Builtin.«reversed.__new__» ⟨[.type "reversed",.ref l],[]⟩) (λ_ R s=>s.heap.get? l=some { cls:=.type "tuple",dict:=dct,data:=.seq xs n,slots:=sl }/\∀tk,R (.ok (.ret (.ref s.heap.objs.size))) { s with heap:=s.heap.push (revT l ((xs.size:Int)-1)),toks:=tk }) :=
 .of_wp λprog w A R s h=>by
  obtain⟨hp,g,d,tk,os⟩:=s;obtain⟨hl,h⟩:=h;have hT:∀tk',(⟨hp,g,d,tk',os⟩:Shared).TypeIs (.ref l) "tuple":=λ_=>⟨_,hl,rfl⟩
  have hsub:=zhF;have hno:typeLookup (.type "tuple") "__reversed__"=pure none:=by rw[typeLookup_type,xBd];kernel_rfl
  have hdict:isSubtype (.type "tuple") (.type "dict")=pure false:=by rw[xBt];kernel_rfl
  have hgi:=slot_tuple_getitem.lookup;unfold Builtin.«reversed.__new__»;have hn:=ydf
  repeat (any_goals (first|assumption|exact hT _|((with_reducible show wpAny _ _ (call (Value.builtin "len") _ _) _ _ _);refine len_tuple (s:=⟨hp,g,d,tk,os⟩) ⟨_,hl,rfl,n,rfl⟩ () ?_)|wp_step))
  exact⟨_,rfl,h _⟩
noncomputable def Itrv(K:PySem.W.Frag)(a:Addr)(n:Nat):It :=
 ⟨λi H=>∃xs x,SqT K H a xs/\i<n/\xs.length=n/\xs[n-1-i]?=some x,λi H x H'=>H'=H/\∀xs,SqT K H a xs->xs[n-1-i]?=some x,λi _=>n<=i⟩
theorem yfA{P:Program}{w:World}{K:PySem.W.Frag}{tg:Expr}(a it:Addr)(n:Nat):Turn P w K tg (Itrv K a n) [it] it (λi h=>i<=n/\ybL h it a ((n:Int)-1-(i:Int))) where
 mem:=by simp
 obj:=λi h st b hb=>by
  have e:b=it:=by simpa using hb
  subst e;obtain⟨_,o,e,c,d⟩:=st;exact⟨o,e,λv z=>by rw[d]at z;cases z⟩
 keep:=λi h h' st k=>⟨st.1,st.2.at λo e=>k it (by simp) o e⟩
 item:=by
  intro X hP hw hK hc i pins s σ H E I hf st hg;subst hP hw hK;obtain⟨xs,x,hq,hi,hl,hx⟩:=hg;obtain⟨its,rv,p,hz⟩:=I.tuple hq;obtain⟨u,hu,ru⟩:=rv.get hx;obtain⟨f0,f1,f2,f3,f4,f5⟩:=hf it (by simp);have st2:=st.2;rw[show(n:Int)-1-(i:Int)=((n-1-i:Nat):Int) by omega]at st2;have hlen:=rv.length;refine yfX st2 (show s.heap.IsTuple a its.toArray from p) (x:=u) (by simpa using hu) (by rw[xA5];omega) λh' tk st' sb=>?_
  rw[show((n-1-i:Nat):Int)-1=(n:Int)-1-((i+1:Nat):Int) by omega]at st';have I1:Inv X pins σ H { s with heap:=h',toks:=tk }:=I.turned (t':=tk) (λb o hb e=>(sb.2 b hb).trans e) f0 f1 f3 f4 f5;obtain⟨o,e,c,d⟩:=id st';exact⟨u,rfl,zfA (s:={ s with heap:=h',toks:=tk }) e c d #[] ⟨x,H,I1,ru,⟨rfl,λys hy=>by rw[I.tuple_inj hy hq];exact hx⟩,⟨(),st'⟩,λb hb=>(hf b hb).1⟩⟩
 done:=by
  intro X hP hw hK hc i pins s σ H E I hf st hg;subst hP hw hK;have hi:i=n:=Nat.le_antisymm st.1 hg;subst hi;obtain⟨f0,f1,f2,f3,f4,f5⟩:=hf it (by simp);have st2:=st.2;rw[show(i:Int)-1-(i:Int) = -1 by omega]at st2;exact ygz (I.ok.hd hc) st2 λh' tk eb=>⟨rfl,I.turned (t':=tk) (λb o hb e=>eb b o hb e) f0 f1 f3 f4 f5⟩
 self:=λ_ _ _ _ _ st h=>zd0 st.2 h
theorem yb7:bootBuiltins "reversed"=some (.type "reversed"):=by decide +kernel
section
variable {X:Cx}
noncomputable def iRev(K:PySem.W.Frag)(ta:TA):TI:=λσ H R=>ta σ H λvs H1=>∃a xs,vs=[.ref a]/\SqT K H1 a xs/\R (Itrv K a xs.length) H1
theorem zh1{a:Expr}{ta:TA}{p pos:Pos}{tg:Expr}(hg:Gl X "reversed")(hm:X.mg "reversed"=none)(ha:PA X [a] ta)(hs:starEach [a] X.env=[(false,eval a X.env)]:=by rfl) :
  PI X tg (.Call (.Name "reversed" p) [a] [] pos) (iRev X.K ta):=by
 intro pins s σ H R I h;refine Call_ (ybE I hg hm (u:=.type "reversed") yb7 (xAP (thn (ha pos pins s σ H _ I h) λus s1 ⟨vs,H1,I1,r1,q1⟩=>?_) hs rfl));obtain⟨a,xs,e,h1,q⟩:=q1;subst e;cases r1 with
 |cons r rr=>
  cases rr;cases r;obtain⟨its,rv,⟨⟨cls,dd,data,sl⟩,ho,hc,n,hd⟩,hz⟩:=I1.tuple h1;simp only at hc hd;subst hc hd;have hl:=rv.length;refine callType_new zcP #[] (yd9 _) (zeA _) (λobj=>F.args_object_init_2 obj _) ydp (yfm a its.toArray n dd sl (by rw[xA5];omega)) ⟨ho,λtk=>?_⟩;have hr:ybL (s1.heap.push (revT a ((its.toArray.size:Int)-1))) s1.heap.objs.size a ((xs.length:Int)-1-((0:Nat):Int)):=by
   refine⟨_,xA6 _ rfl,rfl,?_⟩;show Data.fields _=Data.fields _;rw[xA5,<-hl];simp
  refine⟨⟨_,xA6 _ rfl,rfl⟩,zd0 hr ?_⟩;refine⟨s1.heap.objs.size,[s1.heap.objs.size],_,_,H1,rfl,I1.kept (t':=tk) λb o e=>xA2 _ e,yfA a _ xs.length,⟨xB1 _,hr⟩,λb hb=>?_,q⟩;have e:b=s1.heap.objs.size:=by simpa using hb
  subst e;exact I1.fpOk (xA4 _) (I1.hok.fresh (xA4 _))
theorem ygU{K:PySem.W.Frag}{a:Addr}{xs:List V}:Seqs (Itrv K a xs.length) xs.length (λH=>SqT K H a xs) (λi x H H'=>H'=H/\xs[xs.length-1-i]?=some x) :=
 ⟨λi H hi g=>⟨xs,xs[xs.length-1-i],g,hi,rfl,by simp⟩,λH g=>xA4 _,λi H x H' hi g q=>⟨q.1,q.2 xs g⟩⟩
end
end L2
end
section
-- text: ExtM
namespace L2
open PySem PySem.Spec PyProof.Rows
theorem zcI:∀ {ns:List Int} {us:List Value},Vals (ns.map V.int) us->IntsAre us ns
 | [],[],_=>.nil
 | [],_::_,r=>by cases r
 |_::_,[],r=>by cases r
 |n::ns,u::us,.cons r t=>by
  obtain⟨tk,rfl⟩:=r;exact .cons n tk (zcI t)
theorem ybM:∀ {us:List Value} {ns:List Int},IntsAre us ns->Vals (ns.map V.int) us
 |_,_,.nil=>.nil
 |_,_,.cons n t h=>.cons ⟨t,rfl⟩ (ybM h)
section
variable {X:Cx}
noncomputable def zhz(K:PySem.W.Frag):List V->Hp->VK->Prop:=λvs H Q=>∃(a:Addr) (ns:List Int),vs=[.ref a]/\SqL K H a (ns.map V.int)/\ns.length<64/\
 ∀(l:Addr) (ns':List Int),H l=none->ns'.Perm ns->ns'.Pairwise (·<=·)->Q (.ref l) (upd H l (.lst (ns'.map V.int)))
theorem yeu:yb0 X (.builtin "sorted") (zhz X.K):=by
 intro pins s σ H xs us Q I r h;obtain⟨a,ns,rfl,ha,hl,q⟩:=h;obtain⟨u,rfl,rx⟩:=zcx r;cases rx;obtain⟨its,r1,p1,z1⟩:=I.list ha;have hlen:=r1.length;rw[xA1]at hlen z1;refine sorted_ints p1.isList (zcI r1) () λout ns' a1 a2 a3=>?_
 obtain⟨e,he⟩:=sortedAll_at s.heap its out;have r2:Vals (ns'.map V.int) out.toList:=ybM a1;refine⟨.ref (s.heap.objs.size+1),_,I.laid (a:=s.heap.objs.size+1) (t':=s.toks) (o:=.lst (ns'.map V.int)) (λb ob e=>sortedAll_old e) (Nat.le_succ _) ⟨?_,out.toList,e,r2,?_⟩,rfl,q _ ns' (I.hok.fresh (Nat.le_succ _)) a2 a3⟩
 ·rw[xA1,a2.length_eq];exact z1
 ·rw[he]
end
end L2
end
section
-- text: ExtN
namespace L2
open PySem PyProof.Rows
noncomputable def Eqv(K:PySem.W.Frag)(H:Hp):Nat->V->V->Prop
 |0,_,_=>False
 |n+1,v,w=>(∃i:Int,v = .int i/\w = .int i)\/(v = .non/\w = .non)\/∃(a b:Addr) (xs ys:List V),v = .ref a/\w = .ref b/\SqT K H a xs/\SqT K H b ys/\xs.length=ys.length/\xs.length<=500/\∀(i:Nat) x y,xs[i]?=some x->ys[i]?=some y->Eqv K H n x y
section
variable {X:Cx}
theorem ycC{xs:List V}{us:List Value}(h:Vals xs us){i:Nat}(hi:i<us.toArray.size):∃x,xs[i]?=some x/\RelV x us.toArray[i]:=by
 have hl:=h.length;rw[xA5]at hi;have hx:xs[i]?=some (xs[i]'()):=xA7 ();have hu:us[i]?=some (us[i]):=xA7 hi;exact⟨_,hx,h.getR i _ _ hx hu⟩
theorem yhf{pins:List (Addr×Obj)}{σ:St}{H:Hp}{s:Shared}(I:Inv X pins σ H s):∀(n:Nat) (A:Around) (x y:V) (v u:Value),A.units+n<cLine->Eqv X.K H n x y->RelV x v->RelV y u->SeqAt.EqAt A s v u true
 |0,_,_,_,_,_,_,h,_,_=>h.elim
 |n+1,A,x,y,v,u,hA,h,rx,ry=>by
  rcases h with⟨i,rfl,rfl⟩ |⟨rfl,rfl⟩ |⟨a,b,xs,ys,rfl,rfl,ha,hb,hl,_,hx⟩
  ·obtain⟨t1,rfl⟩:=rx;obtain⟨t2,rfl⟩:=ry;have:=SeqAt.EqAt.int_int (A:=A) (s:=s) i t1 i t2
   rwa [beq_self_eq_true]at this
  ·cases rx;cases ry;exact SeqAt.EqAt.same _
  ·cases rx;cases ry;by_cases c:a=b
   ·subst c;exact SeqAt.EqAt.same _
   ·obtain⟨us,r1,p1,z1⟩:=I.tuple ha;obtain⟨vs,r2,p2,z2⟩:=I.tuple hb;have l1:=r1.length;have l2:=r2.length;have e:=SeqAt.RcAt.tuples (A:=A) (e:=λ_=>true) p1 p2 () λj h1 h2=>by
     obtain⟨x1,e1,q1⟩:=ycC r1 h1;obtain⟨y1,e2,q2⟩:=ycC r2 h2;exact yhf I n A.in1 x1 y1 _ _ (by show A.units+1+n<cLine;omega) (hx j x1 y1 e1 e2) q1 q2
    have e2:((List.range (min us.toArray.size vs.toArray.size)).all (λ_=>true)&&us.toArray.size==vs.toArray.size)=true:=by simp;omega
    rw[e2]at e;exact SeqAt.EqAt.of_refs c e
end
end L2
end
section
-- text: ExtO
namespace L2
open PySem PyProof.Rows
noncomputable def Rise(xs:Array Nat):Prop:=xs.toList.Pairwise (· < ·)
theorem zcH{xs:Array Nat}(h:Rise xs){i j:Nat}(hij:i<j)(hj:j<xs.size):xs[i]'()<xs[j]:=by
 have:=List.pairwise_iff_getElem.mp h i j (by simpa using (by omega:i<xs.size)) (by simpa using hj) hij
 simpa using this
theorem ydA{xs:Array Nat}(h:Rise xs)(j:Nat):∀(fuel lo hi:Nat),hi-lo<=fuel->lo<=hi->hi<=xs.size->
  (∀i (hi':i<xs.size),i<lo->xs[i]<j)->(∀i (hi':i<xs.size),hi<=i->j<=xs[i])->
  SetTable.below.go xs j fuel lo hi<=xs.size/\(∀i (hi':i<xs.size),i<SetTable.below.go xs j fuel lo hi->xs[i]<j)/\(∀i (hi':i<xs.size),SetTable.below.go xs j fuel lo hi<=i->j<=xs[i])
 |0,lo,hi,hf,hl,hs,h1,h2=>by
  have e:lo=hi:=by omega
  subst e;exact⟨hs,h1,h2⟩
 |fuel+1,lo,hi,hf,hl,hs,h1,h2=>by
  unfold SetTable.below.go;by_cases c:lo<hi
  ·rw[if_pos c];have hm:(lo+hi)/2<xs.size:=by omega
   have eg:xs.getD ((lo+hi)/2) j=xs[(lo+hi)/2]:=by simp[Array.getD,hm]
   dsimp only;rw[eg];by_cases d:xs[(lo+hi)/2]<j
   ·rw[if_pos d];refine ydA h j fuel _ _ () () hs (λi hi' hlt=>?_) h2;by_cases e:i=(lo+hi)/2
    ·subst e;exact d
    ·exact Nat.lt_trans (zcH h () hm) d
   ·rw[if_neg d];refine ydA h j fuel _ _ () () () h1 λi hi' hge=>?_
    by_cases e:i=(lo+hi)/2
    ·subst e;omega
    ·have:=zcH h (show(lo+hi)/2<i by omega) hi';omega
  ·rw[if_neg c];have e:lo=hi:=by omega
   subst e;exact⟨hs,h1,h2⟩
theorem ycj{xs:Array Nat}(h:Rise xs)(j:Nat):SetTable.below xs j<=xs.size/\(∀i (hi':i<xs.size),i<SetTable.below xs j->xs[i]<j)/\(∀i (hi':i<xs.size),SetTable.below xs j<=i->j<=xs[i]) :=
 ydA h j xs.size 0 xs.size () () (xA4 _) (λi _ hi=>absurd hi (Nat.not_lt_zero _)) (λi hi' hge=>absurd hi' ())
theorem zey{xs:Array Nat}(h:Rise xs){j:Nat}(hn:xs[SetTable.below xs j]?≠some j):Rise (SetTable.insertAt xs (SetTable.below xs j) j):=by
 obtain⟨h1,h2,h3⟩:=ycj h j;generalize SetTable.below xs j=r at *;unfold Rise;rw[SetTable.toList_insertAt];have hd:∀y∈xs.toList.drop r,j<y:=by
  intro y hy;obtain⟨i,hi,e⟩:=List.getElem_of_mem hy;rw[List.getElem_drop]at e;have hi2:r+i<xs.size:=by simp at hi;omega
  have e2:y=xs[r+i]:=by rw[<-e];simp
  have h4:=h3 (r+i) hi2 ();have h5:r<xs.size:=by omega
  have h6:=h3 r h5 (xA4 _);have h7:xs[r]≠j:=λq=>hn (by rw[xB5 h5,q])
  by_cases c:i=0
  ·subst c;rw[e2];simp only[Nat.add_zero];omega
  ·have:=zcH h (show r<r+i by omega) hi2;rw[e2];omega
 have ht:∀y∈xs.toList.take r,y<j:=by
  intro y hy;obtain⟨i,hi,e⟩:=List.getElem_of_mem hy;rw[List.getElem_take]at e;have hi2:i<xs.size:=by simp at hi;omega
  have e2:y=xs[i]:=by rw[<-e];simp
  rw[e2];exact h2 i hi2 (by simp at hi;omega)
 refine List.pairwise_append.mpr ⟨List.Pairwise.sublist (List.take_sublist _ _) h,List.pairwise_cons.mpr ⟨hd,List.Pairwise.sublist (List.drop_sublist _ _) h⟩,λa ha b hb=>?_⟩;rcases xAa.mp hb with rfl|hb
 ·exact ht a ha
 ·exact Nat.lt_trans (ht a ha) (hd b hb)
theorem zdN{t:SetTable}{f:Nat->Int}{h:Int}:∀(fuel:Nat) (p:SetTable.Probe) {j:Nat} {d:Option Nat},(∀e,p.dummy=some e->t.slot e = .dummy)->SetTable.probe.go t f h fuel p=some (.empty j d)->t.slot j = .empty/\∀e,d=some e->t.slot e = .dummy
 |0,p,j,d,_,e=>by cases e
 |fuel+1,p,j,d,hp,e=>by
  unfold SetTable.probe.go at e;have adv:∀q:SetTable.Probe,(t.advance q).dummy=q.dummy:=λq=>by unfold SetTable.advance;split <;> rfl
  cases hs:t.slot p.j with
  |empty=>rw[hs]at e;cases e;exact⟨hs,hp⟩
  |dummy=>
   rw[hs]at e;refine zdN fuel _ (λx hx=>?_) e;rw[adv]at hx;cases hx;exact hs
  |live i=>
   rw[hs]at e;dsimp only at e;split at e
   ·cases e
   ·refine zdN fuel _ (λx hx=>?_) e;rw[adv]at hx;exact hp x hx
theorem zga{t:SetTable}{h:Int}{j:Nat}{b:Bool}(e:t.freeSlot h=some (j,b)):∀i,t.slot j≠.live i:=by
 unfold SetTable.freeSlot at e;split at e
 ·rename_i j' d hm;obtain⟨h1,h2⟩:=zdN (t:=t) _ _ (λe he=>by cases he) hm;cases e;intro i;cases d with
  |none=>show t.slot j'≠_;rw[h1];exactλq=>nomatch q
  |some d=>show t.slot d≠_;rw[h2 d rfl];exactλq=>nomatch q
 ·cases e
theorem ygi{t:SetTable}{j:Nat}(h:∀i,t.slot j≠.live i):t.place[SetTable.below t.place j]?≠some j:=λe=>by
 refine h (SetTable.below t.place j) ?_;unfold SetTable.slot;dsimp only;rw[if_pos (by rw[e];exact beq_self_eq_true _)]
structure TabG(led:Bool)(t:SetTable):Prop where
 led:t.led=led
 rise:t.plain=true->Rise t.place
theorem TabG.standIn{led:Bool}{t:SetTable}(h:TabG led t)(n:Nat):TabG led (t.standIn n):=⟨h.led,λe=>by cases e⟩
theorem ygx{led:Bool}{t:SetTable}(h:TabG led t)(es:Array (Int×Value))(k:Int)(x:Value):TabG led (layNew t es k x).2.1:=by
 unfold layNew;split
 ·rename_i slot wasDummy he;dsimp only;have hp:TabG led (t.put slot).1:=by
   refine⟨h.led,λe=>?_⟩;exact zey (h.rise e) (ygi (zga he))
  unfold SetTable.orStandIn;split
  ·exact hp
  ·exact hp.standIn _
 ·exact h.standIn _
theorem zfn{led:Bool}{t:SetTable}(h:TabG led t)(es:Array (Int×Value))(n:Nat):TabG led (relayAll t es n).2.1:=by
 unfold relayAll;split
 ·rename_i t' order he;have ht:TabG led t':=by
   unfold SetTable.relaid SetTable.laid at he;simp only[Option.bind_eq_bind,Option.bind_eq_some_iff]at he;obtain⟨owner,_,he⟩:=he;cases he;refine⟨h.led,λ_=>?_⟩;unfold Rise;dsimp only;rw[List.pairwise_map,List.pairwise_filterMap];refine List.Pairwise.imp ?_ List.pairwise_lt_range;intro a b hab x hx y hy;cases h1:owner.getD a none with
   |none=>rw[h1]at hx;cases hx
   |some u=>
    cases h2:owner.getD b none with
    |none=>rw[h2]at hy;cases hy
    |some v=>rw[h1]at hx;rw[h2]at hy;cases hx;cases hy;exact hab
  dsimp only;split
  ·exact ht
  ·exact h.standIn _
 ·exact h.standIn _
section
variable {prog:Program} {w:World} {A:Around} {E:Value->Shared->Prop} {s:Shared}
noncomputable abbrev zbi(w:World):Bool:=w.params.followText "set-order"
noncomputable def SetG(w:World)(prog:Program)(h:Heap)(a:Addr)(S:Int->Bool)(n:Nat):Prop :=
 ∃o es ep t,h.get? a=some o/\o.ExactSet/\o.data = .set es ep t/\ElemsOf (intKind prog w) es.toList/\(∀k,S k=true↔∃e∈es.toList,(intKind prog w).is k e.2=true)
  /\es.size<scanBound/\t.fits es.size=true/\es.size=n/\TabG (!zbi w) t
theorem yef{h:Heap}{a:Addr}{o:Obj}{es:Array (Int×Value)}{ep:Nat}{t:SetTable}(ho:h.get? a=some o)(hd:o.data = .set es ep t)(es':Array (Int×Value))(t':SetTable) :
  (h.update a (Obj.putSet es' t')).get? a=some { o with data:=.set es' (ep+1) t' }:=by
 have:=xAY (Obj.putSet es' t') ho (by rw[putSet_of es' t' hd];rfl);rw[putSet_of es' t' hd]at this;exact this
theorem yiE{a:Addr}{S:Int->Bool}{n:Nat}{k:Int}{tk:Tok}{Q:Bool->Shared->Prop}(hS:SetG w prog s.heap a S n)(hroom:n+1<scanBound)
  (h:∀h' b,Heap.SameBut a s.heap h'->SetG w prog h' a (λk'=>S k'||decide (k'=k)) (if S k then n else n+1)->Q b { s with heap:=h' }) :
  wpAny (model prog w) A (setAddHashed a (.int k tk) ((intKind prog w).hash k)) Q E s:=by
 obtain⟨o,es,ep,t,ho,hex,hd,hel,hmem,hb,hf,hn,hG⟩:=hS;have hkey:(intKind prog w).is k (.int k tk)=true:=intKind_is _ _ _ _;have hsc:(Value.int k tk).scannable=true:=rfl;unfold setAddHashed setAddHashedIn;refine xB9 (xA0 (wpAny_setState_of ho hd hf ?_));dsimp only;rw[byScan_of hsc hb hel,if_pos rfl];unfold setAddByScan;refine xA0 (xA0 (xBc (xA0 (wpAny_setScan_of hkey ho hd hf hel ?_))));cases hr:List.findIdx? (λe=>(intKind prog w).is k e.2) es.toList with
 |some j=>
  obtain⟨hj,hpj,_⟩:=List.findIdx?_eq_some_iff_getElem.mp hr;have hSk:S k=true:=(hmem k).mpr ⟨es.toList[j],List.getElem_mem hj,hpj⟩;refine xA3 (xA3 ?_);have h1:=h s.heap false (Heap.SameBut.refl a s.heap) ⟨o,es,ep,t,ho,hex,hd,hel,λk'=>by
   rw[Bool.or_eq_true,xBv,<-hmem k'];exact⟨λhk=>hk.elim id (λe=>e ▸ hSk),.inl⟩,hb,hf,by rw[hSk];exact hn,hG⟩
  exact h1
 |none=>
  have hSk:S k=false:=by
   cases hk:S k with
   |false=>rfl
   |true=>
    obtain⟨e,he,hp⟩:=(hmem k).mp hk;have:=List.findIdx?_eq_none_iff.mp hr e he;rw[hp]at this;cases this
  have hperm:=layNew_perm t es ((intKind prog w).hash k) (.int k tk);have hfits:=layNew_fits t es ((intKind prog w).hash k) (.int k tk);have hG1:=ygx hG es ((intKind prog w).hash k) (.int k tk);dsimp only;generalize layNew t es ((intKind prog w).hash k) (.int k tk)=L at hperm hfits hG1 ⊢;obtain⟨es1,t1,wasDummy,gave⟩:=L;dsimp only at hperm hfits hG1 ⊢;rw[Array.toList_push]at hperm;have hel1:ElemsOf (intKind prog w) es1.toList:=(hel.push hkey hsc).perm hperm;have hmem1:∀k',(S k'||decide (k'=k))=true↔∃e∈es1.toList,(intKind prog w).is k' e.2=true:=mem_push_iff hkey hmem hperm;have hsz1:es1.size=n+1:=by rw[<-xAl,hperm.length_eq,xAx,xAl,hn];rfl
  have hz:es1.size<=sizeLine:=fits_of_scanBound ();have en:(if S k=true then n else n+1)=n+1:=by rw[hSk];rfl
  rw[en]at h;have fin:∀t2:SetTable,TabG (!zbi w) t2->t2.fits es1.size=true->wpAny (model prog w) A (storeSet a es1 t2 >>= λ_=>if (!wasDummy&&t2.tooFull)=true then
     (match (relayAll t2 es1 (SetTable.grown es1.size)).2.2 with|true=>rule "set.scan.the-table-gave-way"|false=>pure Unit.unit) >>= λ_=>storeSet a (relayAll t2 es1 (SetTable.grown es1.size)).1 (relayAll t2 es1 (SetTable.grown es1.size)).2.1 >>= λ_=>pure (some true)
    else pure (some true)) (λr s'=>∃h',s'={ s with heap:=h' }/\r=some true/\Heap.SameBut a s.heap h'/\SetG w prog h' a (λk'=>S k'||decide (k'=k)) (n+1)) E s:=by
   intro t2 g2 f2;refine xA0 (wpAny_storeSet_of ho hd ?_ hz);have o1:=yef ho hd es1 t2;have b1:=xBj s.heap a (Obj.putSet es1 t2);split
   ·have hp:=relayAll_perm t2 es1 (SetTable.grown es1.size);have hfr:=relayAll_fits t2 es1 (SetTable.grown es1.size);have g3:=zfn g2 es1 (SetTable.grown es1.size);generalize relayAll t2 es1 (SetTable.grown es1.size)=Rl at hp hfr g3 ⊢;obtain⟨es2,t3,gave2⟩:=Rl;dsimp only at hp hfr g3 ⊢;have hsz:es2.size=es1.size:=by rw[<-xAl,hp.length_eq,xAl]
    have rest:wpAny (model prog w) A (storeSet a es2 t3 >>= λ_=>pure (some true)) (λr s'=>∃h',s'={ s with heap:=h' }/\r=some true/\Heap.SameBut a s.heap h'/\SetG w prog h' a (λk'=>S k'||decide (k'=k)) (n+1)) E { s with heap:=s.heap.update a (Obj.putSet es1 t2) }:=by
     refine xA0 (wpAny_storeSet_of o1 rfl ?_ ());exact xA3 ⟨_,rfl,rfl,b1.trans (xBj _ a _),_,es2,_,t3,yef o1 rfl es2 t3,hex,rfl,hel1.perm hp,λk'=>(hmem1 k').trans ⟨λ⟨e,he,q⟩=>⟨e,hp.mem_iff.mpr he,q⟩,λ⟨e,he,q⟩=>⟨e,hp.mem_iff.mp he,q⟩⟩,(),hfr,(),g3⟩
    cases gave2
    ·exact xA0 (xA3 rest)
    ·exact xA0 (xBc rest)
   ·exact xA3 ⟨_,rfl,rfl,b1,_,es1,_,t2,o1,hex,rfl,hel1,hmem1,(),f2,hsz1,g2⟩
  have hgw:∀(b:Bool) {s₁:Shared} {Q':Unit->Shared->Prop},Q' Unit.unit s₁->wpAny (model prog w) A (match b with|true=>rule "set.scan.the-table-gave-way"|false=>pure Unit.unit) Q' E s₁ :=
   λb s₁ Q' hq=>by cases b <;> first|exact xA3 hq|exact xBc hq
  refine xA0 (hgw gave ?_);split
  ·refine xA0 ?_;rw[hashByValue_scannable 8 hsc];refine xA3 ?_;refine thn (fin t1 hG1 hfits) λr s' ⟨h',e1,e2,b,g⟩=>?_
   subst e1;subst e2;exact xA3 (h h' true b g)
  ·refine xA0 (xA3 ?_);refine thn (fin t1 hG1 hfits) λr s' ⟨h',e1,e2,b,g⟩=>?_
   subst e1;subst e2;exact xA3 (h h' true b g)
theorem SetG.at{h h':Heap}{a:Addr}{S:Int->Bool}{n:Nat}(x:SetG w prog h a S n)(e:∀o,h.get? a=some o->h'.get? a=some o):SetG w prog h' a S n:=by
 obtain⟨o,es,ep,t,ho,r⟩:=x;exact⟨o,es,ep,t,e o ho,r⟩
theorem SetG.congr{h:Heap}{a:Addr}{S S':Int->Bool}{n n':Nat}(x:SetG w prog h a S n)(e:∀k,S k=S' k)(en:n=n'):SetG w prog h a S' n':=by
 have:S=S':=funext e;subst this;subst en;exact x
section
variable {R:Result->Shared->Prop} {I:Addr} {fp wr:List Addr} {G:Array GenState->Array GenState->Prop} {n:Nat} {P:Nat->Value->Prop} {St:Nat->Shared->Prop}
theorem zil(W:WalksS prog w A.in1 I fp wr G n P St)(S:Addr)(hSf:S∉fp)(val:Nat->Int)(hval:∀i v,P i v->∃t,v = .int (val i) t)(hb:n+1<scanBound):∀(k i:Nat) (s:Shared),n-i=k->i<=n->St i s->
   SetG w prog s.heap S (λk'=>(firstMet val i).any (·==k')) (firstMet val i).length->
   (∀s',Moved (S::wr) G s s'->SetG w prog s'.heap S (λk'=>(firstMet val n).any (·==k')) (firstMet val n).length->R (.ok (.ret .none)) s')->
   codeAny (model prog w) A (.builtin "set.update.loop" ⟨[.ref S,.ref I],[]⟩) R s:=by
 have hSw:S∉wr:=λh=>hSf (W.sub _ h)
 have hsub:∀b∈wr,b∈S::wr:=λb hb=>xAd _ hb
 intro k
 induction k with
 |zero=>
  intro i s hk hi hst hS hR;obtain rfl:i=n:=by omega
  refine codeAny_builtin F.entry_set_update_loop ?_;rw[xBp F.plain_set_update_loop _];show wpAny _ A.in1 (pyNext (.ref I) >>= _) _ _ s;refine xA0 (W.done s _ _ hst λs' hm=>?_);exact xA3 (hR s' (hm.mono hsub) (hS.at λo e=>hm.heap S o hSw e))
 |succ k ih=>
  intro i s hk hi hst hS hR;have hlt:i<n:=by omega
  refine codeAny_builtin F.entry_set_update_loop ?_;rw[xBp F.plain_set_update_loop _];show wpAny _ A.in1 (pyNext (.ref I) >>= _) _ _ s;refine xA0 (W.item i s _ _ hlt hst λv s' hP hst' hm=>?_);obtain⟨t,rfl⟩:=hval i v hP;have hS':=hS.at (h':=s'.heap) λo e=>hm.heap S o hSw e
  show wpAny _ A.in1 (holding [Value.int (val i) t] (setAdd S (.int (val i) t)) >>= _) _ _ s';refine xA0 (xB9 ?_);unfold setAdd;refine xB9 (xA0 ((intKind prog w).pyHash (k:=val i) (intKind_is _ _ _ _) ?_));have hroom:(firstMet val i).length+1<scanBound:=by have:=firstMet_length_le val i;omega
  refine yiE (s:={ s' with toks:=s'.toks+1 }) hS' hroom λh' b hsb hS2=>?_
  have hSi:SetG w prog h' S (λk'=>(firstMet val (i+1)).any (·==k')) (firstMet val (i+1)).length:=hS2.congr (λk'=>by rw[firstMet_succ,step_any]) (by rw[firstMet_succ,step_length]);refine xA3 ⟨plainId_quiet F.plain_set_update_loop _,ih (i+1) _ () hlt (W.frame _ s' _ _ hst' (Nat.le_succ _) λb hb o e=>?_) hSi λs'' hm'' hS''=>?_⟩
  ·rw[hsb.2 b (λh:b=S=>hSf (by rw[<-h];exact hb))];exact e
  ·refine hR s'' (Moved.trans W.gtrans ((hm.mono hsub).then_heap (Nat.le_succ _) λb o hb e=>?_) hm'') hS'';rw[hsb.2 b (λh:b=S=>hb (by rw[h];exact xAf))];exact e
end
noncomputable abbrev ybq(w:World):Obj:={ cls:=.type "set",dict:=none,data:=.set (List.toArray []) 0 (.fresh 0 0 (!zbi w)) }
theorem zgC{h:Heap}{a:Addr}(e:h.get? a=some (ybq w)):SetG w prog h a (λ_=>false) 0 :=
 ⟨_,(List.toArray []),0,_,e,⟨rfl,rfl,rfl⟩,rfl,λe he=>by simp at he,λk=>by simp,#[],by rfl,rfl,⟨rfl,λ_=>List.Pairwise.nil⟩⟩
theorem ygc(a:Value){Q₁:Value->Shared->Prop}(h:Q₁ (.ref s.heap.objs.size) { s with heap:=s.heap.push (ybq w) }) :
  codeAny (model prog w) A (.call (.builtin "set.__new__") ⟨[.type "set",a],[]⟩) (wants Q₁ E) s:=by
 refine codeAny_of_tree ?_;show wpAny _ A.in1 (do checkBuiltinCall "set.__new__" ⟨[.type "set",a],[]⟩;again (.builtin "set.__new__" ⟨[.type "set",a],[]⟩)) _ _ s;refine xA0 (xBf (F.newCall_set_1 a) (xA3 ⟨plainId_quiet F.plain_set_new _,codeAny_builtin F.entry_set_new ?_⟩));rw[xBp F.plain_set_new _];unfold Builtin.«set.__new__» Builtin.Frozenset.newClass;have hsub:=sub_set_self;obtain⟨hp,g,d,tk,os⟩:=s;dsimp only
 wp_walk
 refine wpAny_askSetting (xA3 ?_);dsimp only;simp only[newObj];refine xA0 (wpAny_alloc (xA3 ?_));exact xA3 h
set_option maxHeartbeats 8000000 in
theorem zfm{l:Addr}{items:Array Value}{ns:List Int}{Q:Value->Shared->Prop}(hh:A.handled=none)(hl:s.heap.IsList l items)(hi:IntsAre items.toList ns)(hb:items.size+1<scanBound)
  (h:∀(h':Heap) (tk:Nat),SetG w prog h' s.heap.objs.size (λk'=>(firstMet (λi=>ns.getD i 0) items.size).any (·==k')) (firstMet (λi=>ns.getD i 0) items.size).length->
   (∀b o,s.heap.get? b=some o->h'.get? b=some o)->Q (.ref s.heap.objs.size) { s with heap:=h',toks:=tk }) :
  wpAny (model prog w) A (call (.type "set") [.ref l]) Q E s:=by
 obtain⟨c,tl,hmro⟩:=F.called_set.mro;have hmade:=F.called_set.made;have hsub:=F.called_set.sub;refine wpAny_call (codeAny_of_tree ?_);show wpAny _ _ (callAny (.type "set") _) _ _ _;refine xA3 ⟨Code.quiet_builtin _ ∅,codeAny_builtin F.entry_type_call ?_⟩;rw[Around.under_plain (weight_type_call_type "set" [.ref l] []) rfl];have h1:=F.called_set.notType;have h2:=F.called_set.canCreate;have hct:=F.typeCall_set_1 (.ref l)
 repeat (any_goals (first|assumption|wp_step))
 refine codeAny_mono (ygc (.ref l) (E:=E) (Q₁:=λobj s₁=>obj = .ref s.heap.objs.size/\s₁={ s with heap:=s.heap.push (ybq w) }) ⟨rfl,rfl⟩) λr s₁ hr=>?_
 cases r with
 |error e=>exact hr
 |ok fl=>
  cases fl with
  |ret obj=>
   obtain⟨rfl,rfl⟩:=hr;have hS:(s.heap.push (ybq w)).get? s.heap.objs.size=some (ybq w):=xA6 _ rfl;have hT:Shared.TypeIs { s with heap:=s.heap.push (ybq w) } (.ref s.heap.objs.size) "set":=⟨_,hS,rfl⟩
   have hli:=F.called_set.init.lookup;have hbi:=F.called_set.init.bind (.ref s.heap.objs.size)
   repeat (any_goals (first|assumption|wp_step))
   refine codeAny_mono (codeAny_call_builtin (R:=wants (λr s₂=>r = .none/\∃h' tk,s₂={ s with heap:=h',toks:=tk }/\
     SetG w prog h' s.heap.objs.size (λk'=>(firstMet (λi=>ns.getD i 0) items.size).any (·==k')) (firstMet (λi=>ns.getD i 0) items.size).length/\
     (∀b o,s.heap.get? b=some o->h'.get? b=some o)) E) F.called_set.init.plain F.entry_set_init (check_set_init_1 hT ?_)) λr₂ s₂ hr₂=>?_
   ·obtain⟨ol,hol,hcl,nl,hdl⟩:=hl;obtain⟨ocls,odict,odata,oslots⟩:=ol;simp only at hcl hdl;subst hcl;subst hdl;have hol':(s.heap.push (ybq w)).get? l=some { cls:=.type "list",dict:=odict,data:=.seq items nl,slots:=oslots }:=xA2 _ hol;have hsls:=F.sub_list_set;have hslf:=F.sub_list_frozenset;have hne:(Value.type "list"==Value.type "dict")=false:=by decide
    have hl1:(s.heap.push (ybq w)).IsList l items:=⟨_,hol',rfl,nl,rfl⟩
    unfold Builtin.«set.__init__» noKeywords Builtin.Frozenset.updateFrom;generalize hPI:pyIter=PI
    wp_walk
    subst hPI;refine wpAny_pyIter_list hl1 ?_;refine xA0 (wpAny_runValue ?_);have hlS:l<s.heap.objs.size:=xAc hol;have hneI:l≠(s.heap.push (ybq w)).objs.size:=by rw[xB4];exact xAy (Nat.lt_succ_of_lt hlS)
    have hSf:s.heap.objs.size∉[(s.heap.push (ybq w)).objs.size,l]:=by
     rw[xB4];simp only[xAa,xAk,xB0,not_or];exact⟨xAy (Nat.lt_succ_self _),Nat.ne_of_gt hlS⟩
    refine zil ((Walks.list (by simp[hh]) _ l hneI items).toS) s.heap.objs.size hSf (λi=>ns.getD i 0) (λi v hv=>IntsAre.int_at hi i v (by rw[Array.getElem?_toList];exact hv)) hb (items.size-0) 0 _ () (xB1 _)
     ⟨⟨_,xA6 _ rfl,rfl,rfl⟩,(hl1.push _)⟩ ((zgC (xA2 _ hS)).congr (λ_=>rfl) rfl) λs' hm hS'=>?_
    obtain⟨h',g',d',tk',os'⟩:=s';obtain rfl:g'=s.gens:=hm.gens;obtain rfl:d'=s.drawn:=hm.drawn;obtain rfl:os'=s.os:=hm.os;show wpAny _ _ _ _ _ _;refine xA3 ?_;show wpAny _ _ (ret Value.none) _ _ _;refine xA3 ⟨rfl,h',tk',rfl,hS',λb o e=>?_⟩;have hb:=xAc e;refine hm.heap b o ?_ (xA2 _ (xA2 _ e));simp only[xAa,xAk,xB0,not_or];rw[xB4];exact⟨xAy hb,xAy (Nat.lt_succ_of_lt hb)⟩
   ·cases r₂ with
    |error e=>exact hr₂
    |ok fl₂=>
     cases fl₂ with
     |ret r=>
      obtain⟨rfl,h',tk,rfl,hS',hk'⟩:=hr₂
      repeat (any_goals (first|assumption|wp_step))
      exact h _ _ hS' hk'
     |_=>exact hr₂.elim
  |_=>exact hr.elim
end
end L2
end
section
-- text: ExtP
namespace L2
open PySem PyProof.Rows
theorem ybk:Manifest.owners.lookup (String.ofList ['r','o','t','a','r','e','t','i','_','t','e','s'].reverse)=some Manifest.sig_set_iterator:=by kernel_rfl
theorem zau:Slot "set_iterator" "__next__" "set_iterator.__next__" :=
 .of (owner:="set_iterator") (n:="__next__") (by rw[typeLookup_type,xBd];kernel_rfl) ∅ ∅ ∅
  (by first|exact .inl ∅|exact .inr ∅) (by rw[xBt];kernel_rfl)
theorem ya7:entryFor table "set_iterator.__next__"=some Builtin.«set_iterator.__next__»:=entryFor_of_tree (by kernel_rfl)
theorem ya0(a:Value):argsOk "set_iterator.__next__" ⟨[a],[]⟩:=by
 unfold argsOk;rw[signature?_of (id:="set_iterator.__next__") (n:=['_','_','t','x','e','n','_','_']) (o:=['r','o','t','a','r','e','t','i','_','t','e','s']) (by kernel_rfl) ybk];kernel_rfl
theorem ydc:entryFor table "set.__iter__"=some Builtin.«frozenset.__iter__» :=
 entryFor_alias (id':="frozenset.__iter__") (by kernel_rfl) (by first|rfl|decide +kernel|(unfold String.splitOn;simp +decide [String.splitOnAux])) ∅ (by kernel_rfl)
noncomputable def IsSI(h:Heap)(I S:Addr)(first:Value)(i n ep:Nat):Prop:=∃o,h.get? I=some o/\o.cls = .type "set_iterator"/\o.data = .fields #[first,rawInt i,.ref S,rawInt n,rawInt ep]
theorem IsSI.at{h h':Heap}{I S:Addr}{first:Value}{i n ep:Nat}(x:IsSI h I S first i n ep)(e:∀o,h.get? I=some o->h'.get? I=some o):IsSI h' I S first i n ep:=let ⟨o,ho,r⟩:=x;⟨o,e _ ho,r⟩
noncomputable def ycx(h:Heap)(S:Addr)(es:Array (Int×Value))(ep:Nat)(t:SetTable):Prop:=∃o,h.get? S=some o/\o.data = .set es ep t/\t.fits es.size=true
theorem ycx.at{h h':Heap}{S:Addr}{es:Array (Int×Value)}{ep:Nat}{t:SetTable}(x:ycx h S es ep t)(e:∀o,h.get? S=some o->h'.get? S=some o):ycx h' S es ep t:=let ⟨o,ho,r⟩:=x;⟨o,e _ ho,r⟩
section
variable {prog:Program} {w:World} {A:Around} {E:Value->Shared->Prop} {s:Shared}
theorem IsSI.typeIs{I S:Addr}{first:Value}{i n ep:Nat}(x:IsSI s.heap I S first i n ep):s.TypeIs (.ref I) "set_iterator":=let ⟨o,ho,hc,_⟩:=x;⟨o,ho,hc⟩
noncomputable def ygV(prog:Program)(w:World)(s:Shared)(S:Addr)(slot i ep:Nat)(r:Option (Value×Nat)):Prop:=∀(A:Around) (E:Value->Shared->Prop) (Q:Option (Value×Nat)->Shared->Prop),Q r s->wpAny (model prog w) A (setNext S slot i ep) Q E s
theorem ygl{I S:Addr}{slot i ep nx:Nat}{es:Array (Int×Value)}{t:SetTable}{x:Value}{Q:Option Value->Shared->Prop}(hit:IsSI s.heap I S (rawInt slot) i es.size ep)(hs:ycx s.heap S es ep t)(hT:ygV prog w s S slot i ep (some (x,nx)))
  (hQ:∀h',IsSI h' I S (rawInt nx) (i+1) es.size ep->Heap.SameBut I s.heap h'->Q (some x) { s with heap:=h' }):wpAny (model prog w) A (pyNext (.ref I)) Q E s:=by
 obtain⟨o,ho,hc,hd⟩:=id hit;obtain⟨os,hos,hds,hf⟩:=id hs;unfold pyNext;refine xA0 (xBr (xAA (name:=Str.ofString "__next__") hit.typeIs zau
  (xAF zau hit.typeIs ya7 ?_ (ya0 _))))
 unfold Builtin.«set_iterator.__next__»;refine xA0 (xBf (a:=(Value.ref I,[])) rfl ?_)
 try dsimp only
 refine xA0 (wpAny_fieldsOf ho hd ?_);simp only[rawInt];refine xA0 (wpAny_setEntries_of hos hds hf ?_);refine xB3 (λh=>absurd h (by simp)) (λ_=>?_);refine xA0 (hT _ _ _ ?_);dsimp only;refine xA0 (xBs ho hd (by simp) ?_);have h1:=xAY (Obj.mapFields (λvs=>vs.setIfInBounds 0 (Value.int nx 0))) ho (Obj.isFreed_of_fields (xAI hd _));refine xA0 (xBs h1 (xAI hd _) (by simp) ?_);refine xA3 ⟨x,rfl,xA3 (hQ _ ?_ ((xBj ..).trans (xBj ..)))⟩;exact⟨_,xAY _ h1 (Obj.isFreed_of_fields (xAI (xAI hd _) _)),(Obj.cls_mapFields ..).trans ((Obj.cls_mapFields ..).trans hc),by rw[xAI (xAI hd _)];simp[rawInt]⟩
theorem yfK{I:Addr}{Q:Option Value->Shared->Prop}(hh:A.handled=none){s1:Shared}(hQ:∀h' tk,(∀b o,s1.heap.get? b=some o->h'.get? b=some o)->Q none { s1 with heap:=h',toks:=tk }) :
  wpAny (model prog w) A.in1 (newExc (.type "StopIteration") [] >>= λe=>raiseNew e) (λfin s'=>∃v,fin=Fin.done (Flow.ret v)/\wpAny (model prog w) A (pure (some v)) Q E s')
   (λe s'=>wpAny (model prog w) A (do if (<-isInstance e (.type "StopIteration"))=true then pure none else throw e) Q E s') s1:=by
 refine xA0 ?_;simp only[newExc,newTuple];refine xA0 (xAs ?_ (by size_fits));refine xA0 (m:=firstArgMember _ _) (xBf (a:=Value.none) (by first|rfl|(simp only[firstArgMember];rfl)) ?_);refine xAs ?_ (by size_fits);simp only[raiseNew];refine xA0 (wpAny_handled ?_)
 first|rw[show A.in1.handled=none from hh]|rw[hh]
 refine xA0 (xA3 (wpAny_throw ?_));refine xA0 (wpAny_isInstance (T:="StopIteration") (b:=true) ⟨_,xA6 _ rfl,rfl⟩ isSubtype_stop ?_);exact xA3 (hQ _ _ λb o' e=>xA2 _ (xA2 _ e))
theorem zhc{I S:Addr}{slot i ep:Nat}{es:Array (Int×Value)}{t:SetTable}{Q:Option Value->Shared->Prop}(hh:A.handled=none)(hit:IsSI s.heap I S (rawInt slot) i es.size ep)(hs:ycx s.heap S es ep t)(hT:ygV prog w s S slot i ep none)
  (hQ:∀h' tk,Heap.ExtBut I s.heap h'->Q none { s with heap:=h',toks:=tk }):wpAny (model prog w) A (pyNext (.ref I)) Q E s:=by
 obtain⟨o,ho,hc,hd⟩:=id hit;obtain⟨os,hos,hds,hf⟩:=id hs;unfold pyNext;refine xA0 (xBr (xAA (name:=Str.ofString "__next__") hit.typeIs zau
  (xAF zau hit.typeIs ya7 ?_ (ya0 _))))
 unfold Builtin.«set_iterator.__next__»;refine xA0 (xBf (a:=(Value.ref I,[])) rfl ?_)
 try dsimp only
 refine xA0 (wpAny_fieldsOf ho hd ?_);simp only[rawInt];refine xA0 (wpAny_setEntries_of hos hds hf ?_);refine xB3 (λh=>absurd h (by simp)) (λ_=>?_);refine xA0 (hT _ _ _ ?_);dsimp only;refine xA0 (xBs ho hd (by simp) ?_);refine yfK (I:=I) hh λh' tk k=>hQ h' tk λb o' hb e=>k b o' ((xAK _ _ (Ne.symm hb)).trans e)
theorem yhu{I S T:Addr}{i ep pl:Nat}{es:Array (Int×Value)}{t:SetTable}{places:Array Value}{kx:Int×Value}{tk:Tok}{Q:Option Value->Shared->Prop}(hit:IsSI s.heap I S (.ref T) i es.size ep)(hs:ycx s.heap S es ep t)(ht:s.heap.IsTuple T places)
  (hp:places[i]?=some (.int pl tk)) (hx:es[pl]?=some kx)
  (hQ:∀h',IsSI h' I S (.ref T) (i+1) es.size ep->Heap.SameBut I s.heap h'->Q (some kx.2) { s with heap:=h' }):wpAny (model prog w) A (pyNext (.ref I)) Q E s:=by
 obtain⟨o,ho,hc,hd⟩:=id hit;obtain⟨os,hos,hds,hf⟩:=id hs;obtain⟨ot,hot,hct,nt,hdt⟩:=id ht;unfold pyNext;refine xA0 (xBr (xAA (name:=Str.ofString "__next__") hit.typeIs zau
  (xAF zau hit.typeIs ya7 ?_ (ya0 _))))
 unfold Builtin.«set_iterator.__next__»;refine xA0 (xBf (a:=(Value.ref I,[])) rfl ?_)
 try dsimp only
 refine xA0 (wpAny_fieldsOf ho hd ?_);simp only[rawInt];refine xA0 (wpAny_setEntries_of hos hds hf ?_);refine xB3 (λh=>absurd h (by simp)) (λ_=>?_);unfold seqItems?;refine xA0 (xA0 (wpAny_load hot ?_));rw[hdt];refine xA3 ?_;dsimp only;rw[xAm,hp];dsimp only;unfold setNextDrawn;refine xA0 (xA0 (wpAny_setState_of hos hds hf ?_));dsimp only;refine xB3 (λh=>absurd h (by simp)) (λ_=>?_);rw[xAm,hx];obtain⟨k0,x⟩:=kx;refine xA3 ?_;refine xA0 (xBs ho hd (by simp) ?_);refine xA3 ⟨x,rfl,xA3 (hQ _ ?_ (xBj ..))⟩;exact⟨_,xAY _ ho (Obj.isFreed_of_fields (xAI hd _)),(Obj.cls_mapFields ..).trans hc,by rw[xAI hd];simp[rawInt]⟩
theorem yio{I S T:Addr}{i ep:Nat}{es:Array (Int×Value)}{t:SetTable}{places:Array Value}{Q:Option Value->Shared->Prop}(hh:A.handled=none)(hit:IsSI s.heap I S (.ref T) i es.size ep)(hs:ycx s.heap S es ep t)(ht:s.heap.IsTuple T places)
  (hp:places[i]?=none) (hQ:∀h' tk,Heap.ExtBut I s.heap h'->Q none { s with heap:=h',toks:=tk }):wpAny (model prog w) A (pyNext (.ref I)) Q E s:=by
 obtain⟨o,ho,hc,hd⟩:=id hit;obtain⟨os,hos,hds,hf⟩:=id hs;obtain⟨ot,hot,hct,nt,hdt⟩:=id ht;unfold pyNext;refine xA0 (xBr (xAA (name:=Str.ofString "__next__") hit.typeIs zau
  (xAF zau hit.typeIs ya7 ?_ (ya0 _))))
 unfold Builtin.«set_iterator.__next__»;refine xA0 (xBf (a:=(Value.ref I,[])) rfl ?_)
 try dsimp only
 refine xA0 (wpAny_fieldsOf ho hd ?_);simp only[rawInt];refine xA0 (wpAny_setEntries_of hos hds hf ?_);refine xB3 (λh=>absurd h (by simp)) (λ_=>?_);unfold seqItems?;refine xA0 (xA0 (wpAny_load hot ?_));rw[hdt];refine xA3 ?_;dsimp only;rw[xAm,hp];dsimp only;refine xA0 (xBs ho hd (by simp) ?_);have h1:=xAY (Obj.mapFields (λvs=>vs.setIfInBounds 0 (Value.int 0 0))) ho (Obj.isFreed_of_fields (xAI hd _));refine xA0 (xBs h1 (xAI hd _) (by simp) ?_);refine yfK (I:=I) hh λh' tk k=>hQ h' tk λb o' hb e=>k b o' ((xAK _ _ (Ne.symm hb)).trans ((xAK _ _ (Ne.symm hb)).trans e))
theorem zdi{S:Addr}{es:Array (Int×Value)}{ep:Nat}{t:SetTable}(hs:ycx s.heap S es ep t)(hb:zbi w=true)(slot i:Nat):ygV prog w s S slot i ep (((pickOrder (w.params.setOrder S ep) es)[i]?).map λe=>(e.2,slot)):=by
 intro A E Q hQ;obtain⟨os,hos,hds,hf⟩:=id hs;unfold setNext setWalk setsByText;refine xA0 (wpAny_setState_of hos hds hf ?_);dsimp only;refine xA0 (xA0 (wpAny_askSetting (xA3 ?_)));refine xB3 (λ_=>?_) (λh=>absurd hb h);refine xB3 (λh=>absurd h (by simp)) (λ_=>?_);refine xA0 (xA0 (wpAny_setState_of hos hds hf ?_));dsimp only;refine xA0 (xA0 (wpAny_askSetting (xA3 ?_)));refine xB3 (λ_=>?_) (λh=>absurd hb h);refine xA0 (wpAny_askSetting ?_);exact xA3 (xA3 hQ)
theorem zcO{S:Addr}{es:Array (Int×Value)}{ep:Nat}{t:SetTable}(hs:ycx s.heap S es ep t)(hb:zbi w=false)(hl:t.led=true)(hp:t.plain=true\/es.size<=1)(slot i:Nat) :
  ygV prog w s S slot i ep (match es[SetTable.below t.place slot]?,t.place[SetTable.below t.place slot]? with|some (_,x),some j=>some (x,j+1)|_,_=>none):=by
 intro A E Q hQ;obtain⟨os,hos,hds,hf⟩:=id hs;unfold setNext setsByText;refine xA0 (wpAny_setState_of hos hds hf ?_);dsimp only;refine xA0 (xA0 (wpAny_askSetting (xA3 ?_)));refine xB3 (λh=>absurd (show zbi w=true from h) (by rw[hb];decide)) (λ_=>?_);refine xB3 (λh=>?_) (λ_=>?_)
 ·have h':(!t.plain&&decide (es.size>1))=true:=h;simp only[xAv,Bool.not_eq_true',xBv]at h';rcases hp with hp|hp
  ·rw[hp]at h';exact absurd h'.1 #[]
  ·omega
 refine xA0 ?_;show wpAny _ _ (if (!t.led&&!es.isEmpty)=true then unsupported "set:maker-not-led" else pure Unit.unit) _ _ _;refine xB3 (λh=>absurd h (by rw[hl];simp)) (λ_=>?_);refine xA3 ?_;exact xA3 hQ
end
end L2
end
section
-- text: ExtQ
namespace L2
open PySem PyProof.Rows
section
variable {prog:Program} {w:World} {A:Around} {E:Value->Shared->Prop} {s:Shared}
theorem zcq{α:Type}:∀(l:List α) (i:Nat) (h:i<l.length),(l[i]::l.eraseIdx i).Perm l
 | [],i,h=>absurd h (Nat.not_lt_zero _)
 |x::l,0,h=>List.Perm.refl _
 |x::l,i+1,h=>by
  show(l[i]'(by simpa using h)::x::l.eraseIdx i).Perm (x::l);exact(List.Perm.swap _ _ _).trans (List.Perm.cons _ (zcq l i (by simpa using h)))
theorem zgc{α:Type}(f:Nat->Nat):∀(n k:Nat) (l:List α) (out:Array α),l.length=n->(pickOrder.go f n k l out).toList.Perm (out.toList++l)
 |0,k,l,out,h=>by
  have:l=[]:=List.length_eq_zero_iff.mp h;subst this;unfold pickOrder.go;rw[List.append_nil]
 |n+1,k,l,out,h=>by
  have hi:f k%l.length<l.length:=xAC _ ();unfold pickOrder.go;rw[xA7 hi];dsimp only;have ih:=zgc f n (k+1) (l.eraseIdx (f k%l.length)) (out.push l[f k%l.length]) (by rw[List.length_eraseIdx_of_lt hi];omega);refine ih.trans ?_;rw[Array.toList_push,List.append_assoc];exact List.Perm.append_left _ (zcq _ _ hi)
theorem yc7{α:Type}(f:Nat->Nat)(xs:Array α):(pickOrder f xs).toList.Perm xs.toList:=by
 have:=zgc f xs.size 0 xs.toList (List.toArray []) (by simp)
 simpa[pickOrder]using this
theorem ydz{src:Source}{n:Nat}{Q:Nat->Shared->Prop}{M:Model}(hn:n≠0)(h:∀x d',x<n->Q x { s with drawn:=d' }):wpAny M A (choose src n) Q E s:=λ_ _ _=>⟨hn,h _ _ (xAC _ ())⟩
theorem yd8{α:Type}{M:Model}:∀(n:Nat) (xs:List α) (s:Shared) (Q:List α->Shared->Prop),xs.length=n->(∀r d',r.Perm xs->Q r { s with drawn:=d' })->wpAny M A (drawOrder n xs) Q E s
 |0,xs,s,Q,h,hQ=>by
  have:xs=[]:=List.length_eq_zero_iff.mp h;subst this;unfold drawOrder;exact xA3 (hQ [] s.drawn .nil)
 |n+1,xs,s,Q,h,hQ=>by
  cases xs with
  |nil=>cases h
  |cons y ys=>
   unfold drawOrder;refine xA0 (ydz (by simp) λi d' hi=>?_);rw[xA7 hi];dsimp only;refine xA0 (yd8 n _ _ _ (by rw[List.length_eraseIdx_of_lt hi];simp at h;simp;omega) λr d2 hr=>?_);exact xA3 (hQ _ d2 ((List.Perm.cons _ hr).trans (zcq _ _ hi)))
noncomputable abbrev GE:Array GenState->Array GenState->Prop:=λa b=>b=a
theorem ycu:Slot "set_iterator" "__iter__" "set_iterator.__iter__" :=
 .of (owner:="set_iterator") (n:="__iter__") (by rw[typeLookup_type,xBd];kernel_rfl) ∅ ∅ ∅
  (by first|exact .inl ∅|exact .inr ∅) (by rw[xBt];kernel_rfl)
theorem zdb(a:Value):argsOk "set_iterator.__iter__" ⟨[a],[]⟩:=by
 unfold argsOk;rw[signature?_of (id:="set_iterator.__iter__") (n:=['_','_','r','e','t','i','_','_']) (o:=['r','o','t','a','r','e','t','i','_','t','e','s']) (by kernel_rfl) ybk];kernel_rfl
theorem zdw:entryFor table "set_iterator.__iter__"=some Builtin.«dict_keyiterator.__iter__» :=
 entryFor_alias (id':="dict_keyiterator.__iter__") (by kernel_rfl) (by first|rfl|decide +kernel|(unfold String.splitOn;simp +decide [String.splitOnAux])) ∅ (by kernel_rfl)
theorem zcQ{I S:Addr}{first:Value}{i n ep:Nat}{Q:Value->Shared->Prop}(hit:IsSI s.heap I S first i n ep)(h:Q (.ref I) s):wpAny (model prog w) A (pyIter (.ref I)) Q E s:=by
 refine wpAny_pyIter_slot hit.typeIs ycu (xAF ycu hit.typeIs zdw ?_ (zdb _));show wpAny _ _ (ret (.ref I)) _ _ s;exact xA3 ⟨_,rfl,"set_iterator",_,hit.typeIs,zau.lookup,h⟩
theorem zfD{I S:Addr}{es:Array (Int×Value)}{ep:Nat}{t:SetTable}(hh:A.handled=none)(hne:S≠I)(hb:zbi w=true) :
  WalksS prog w A I [I,S] [I] GE es.size (λi v=>((pickOrder (w.params.setOrder S ep) es).toList.map (·.2))[i]?=some v) (λi s=>IsSI s.heap I S (rawInt ((0:Nat):Int)) i es.size ep/\ycx s.heap S es ep t) where
 sub:=λb hb=>by simp at hb;simp[hb]
 grefl:=λ_=>rfl
 gtrans:=λ_ _ _ h1 h2=>h2.trans h1
 frame:=λi s h' tk st _ hk=>⟨st.1.at λo e=>hk I (by simp) o e,st.2.at λo e=>hk S (by simp) o e⟩
 item:=λi s Q E hi st hQ=>by
  have hl:(pickOrder (w.params.setOrder S ep) es).size=es.size:=by rw[<-xAl,(yc7 _ es).length_eq,xAl]
  have hx:(pickOrder (w.params.setOrder S ep) es)[i]?=some (pickOrder (w.params.setOrder S ep) es)[i]:=xB5 ();have hT:=zdi (prog:=prog) st.2 hb 0 i;rw[hx]at hT;refine ygl st.1 st.2 hT λh' hit' hs'=>?_
  refine hQ _ _ ?_ ⟨hit',st.2.at λo e=>?_⟩ ⟨λb o hb e=>?_,rfl,rfl,rfl,xA4 _⟩
  ·rw[xA9,Array.getElem?_toList,hx];rfl
  ·exact hs'.extBut S o hne e
  ·exact hs'.extBut b o (λq=>hb (by simp[q])) e
 done:=λs Q E st hQ=>by
  have hl:(pickOrder (w.params.setOrder S ep) es).size=es.size:=by rw[<-xAl,(yc7 _ es).length_eq,xAl]
  have hx:(pickOrder (w.params.setOrder S ep) es)[es.size]?=none:=Array.getElem?_eq_none ();have hT:=zdi (prog:=prog) st.2 hb 0 es.size;rw[hx]at hT;exact wpAny_with_toks (xA4 s.toks) (zhc hh st.1 st.2 hT λh' tk k htk=>hQ _ ⟨λb o hb e=>k b o (λq=>hb (by simp[q])) e,rfl,rfl,rfl,htk⟩)
 self:=λi s Q E st h=>zcQ st.1 h
noncomputable def zcu(place:Array Nat):Nat->Nat
 |0=>0
 |i+1=>place.getD i 0+1
theorem ycs{place:Array Nat}(h:Rise place):∀i,i<=place.size->SetTable.below place (zcu place i)=i
 |0,_=>by
  obtain⟨h1,h2,h3⟩:=ycj h 0;show SetTable.below place 0=0;rcases xAO (SetTable.below place 0) with c|c
  ·exact c
  ·exact absurd (h2 0 () c) (Nat.not_lt_zero _)
 |i+1,hi=>by
  have e:zcu place (i+1)=place[i]+1:=by show place.getD i 0+1=_;simp[Array.getD,show i<place.size by omega]
  obtain⟨h1,h2,h3⟩:=ycj h (zcu place (i+1));rw[e]at h1 h2 h3 ⊢;generalize SetTable.below place (place[i]+1)=r at *;rcases Nat.lt_trichotomy r (i+1) with c|c|c
  ·have:=h3 i () ();omega
  ·exact c
  ·have h4:=h2 (i+1) () c;have h5:=zcH h (show i<i+1 by omega) ();omega
theorem yfq{I S:Addr}{es:Array (Int×Value)}{ep:Nat}{t:SetTable}(hh:A.handled=none)(hne:S≠I)(hb:zbi w=false)(hl:t.led=true)(hp:t.plain=true\/es.size<=1)(hr:Rise t.place)(hz:t.place.size=es.size) :
  WalksS prog w A I [I,S] [I] GE es.size (λi v=>(es.toList.map (·.2))[i]?=some v) (λi s=>IsSI s.heap I S (rawInt (zcu t.place i:Nat)) i es.size ep/\ycx s.heap S es ep t) where
 sub:=λb hb=>by simp at hb;simp[hb]
 grefl:=λ_=>rfl
 gtrans:=λ_ _ _ h1 h2=>h2.trans h1
 frame:=λi s h' tk st _ hk=>⟨st.1.at λo e=>hk I (by simp) o e,st.2.at λo e=>hk S (by simp) o e⟩
 item:=λi s Q E hi st hQ=>by
  have hT:=zcO (prog:=prog) st.2 hb hl hp (zcu t.place i) i;rw[ycs hr i (),xB5 hi,xB5 (show i<t.place.size by omega)]at hT;refine ygl (nx:=zcu t.place (i+1)) (x:=es[i].2) st.1 st.2 ?_ λh' hit' hs'=>?_
  ·have e:zcu t.place (i+1)=t.place[i]+1:=by show t.place.getD i 0+1=_;simp[Array.getD,show i<t.place.size by omega]
   rw[e];exact hT
  refine hQ _ _ ?_ ⟨hit',st.2.at λo e=>?_⟩ ⟨λb o hb e=>?_,rfl,rfl,rfl,xA4 _⟩
  ·rw[xA9,Array.getElem?_toList,xB5 hi];rfl
  ·exact hs'.extBut S o hne e
  ·exact hs'.extBut b o (λq=>hb (by simp[q])) e
 done:=λs Q E st hQ=>by
  have hT:=zcO (prog:=prog) st.2 hb hl hp (zcu t.place es.size) es.size;rw[ycs hr es.size (),Array.getElem?_eq_none (xA4 _)]at hT;exact wpAny_with_toks (xA4 s.toks) (zhc hh st.1 st.2 hT λh' tk k htk=>hQ _ ⟨λb o hb e=>k b o (λq=>hb (by simp[q])) e,rfl,rfl,rfl,htk⟩)
 self:=λi s Q E st h=>zcQ st.1 h
theorem yfj{I S T:Addr}{es:Array (Int×Value)}{ep:Nat}{t:SetTable}{ps:List Nat}(hh:A.handled=none)(hne:S≠I)(hneT:T≠I)(hps:ps.Perm (List.range es.size)) :
  WalksS prog w A I [I,S,T] [I] GE es.size (λi v=>(ps.map λp=>(es.getD p (0,.none)).2)[i]?=some v) (λi s=>IsSI s.heap I S (.ref T) i es.size ep/\ycx s.heap S es ep t/\s.heap.IsTuple T (ps.map λ(p:Nat)=>rawInt p).toArray) where
 sub:=λb hb=>by simp at hb;simp[hb]
 grefl:=λ_=>rfl
 gtrans:=λ_ _ _ h1 h2=>h2.trans h1
 frame:=λi s h' tk st _ hk=>⟨st.1.at λo e=>hk I (by simp) o e,st.2.1.at λo e=>hk S (by simp) o e,st.2.2.at λo e=>hk T (by simp) o e⟩
 item:=λi s Q E hi st hQ=>by
  have hl:ps.length=es.size:=by rw[hps.length_eq,xAt]
  have hm:∀p∈ps,p<es.size:=λp hp=>xAu.mp (hps.mem_iff.mp hp)
  have hpi:ps[i]'()<es.size:=hm _ (List.getElem_mem _);refine yhu (pl:=ps[i]'()) (kx:=es[ps[i]'()]) (tk:=0) st.1 st.2.1 st.2.2 ?_ (xB5 hpi) λh' hit' hs'=>?_
  ·rw[List.getElem?_toArray,xA9,xA7 (show i<ps.length by omega)];rfl
  refine hQ _ _ ?_ ⟨hit',st.2.1.at λo e=>hs'.extBut S o hne e,st.2.2.at λo e=>hs'.extBut T o hneT e⟩ ⟨λb o hb e=>hs'.extBut b o (λq=>hb (by simp[q])) e,rfl,rfl,rfl,xA4 _⟩;rw[xA9,xA7 (show i<ps.length by omega)];simp[Array.getD,hpi]
 done:=λs Q E st hQ=>by
  have hl:ps.length=es.size:=by rw[hps.length_eq,xAt]
  exact wpAny_with_toks (xA4 s.toks) (yio hh st.1 st.2.1 st.2.2 (by rw[List.getElem?_toArray,List.getElem?_eq_none (by simp;omega)]) λh' tk k htk=>hQ _ ⟨λb o hb e=>k b o (λq=>hb (by simp[q])) e,rfl,rfl,rfl,htk⟩)
 self:=λi s Q E st h=>zcQ st.1 h
theorem yfn{es:Array (Int×Value)}{ps:List Nat}(hps:ps.Perm (List.range es.size)):(ps.map λp=>(es.getD p (0,.none)).2).Perm (es.toList.map (·.2)):=by
 refine(hps.map _).trans ?_;have e:(List.range es.size).map (λp=>(es.getD p (0,Value.none)).2)=es.toList.map (·.2):=by
  apply xAS
  ·simp
  ·intro i h1 h2;simp at h1;simp[Array.getD,h1]
 rw[e]
noncomputable def zie(prog:Program)(w:World)(S:Addr)(es:Array (Int×Value))(s0 s:Shared)(I:Addr):Prop :=
 ∃(vs:List Value) (fp:List Addr) (St:Nat->Shared->Prop),vs.Perm (es.toList.map (·.2))/\(∀A:Around,A.handled=none->WalksS prog w A I fp [I] GE es.size (λi v=>vs[i]?=some v) St)/\St 0 s/\(∀b∈fp,b<s.heap.objs.size)/\I∈fp/\s.TypeIs (.ref I) "set_iterator"/\
  (∀b o,s0.heap.get? b=some o->s.heap.get? b=some o)/\s0.heap.objs.size<=I/\s.gens=s0.gens/\s.os=s0.os/\s0.toks<=s.toks/\∀b∈fp,b=S\/s0.heap.objs.size<=b
theorem zfx{xs:Array Nat}(h:xs.size<=1):Rise xs:=by
 unfold Rise;rw[<-xAl]at h
 match xs.toList,h with
 | [],_=>exact .nil
 | [x],_=>exact List.pairwise_singleton _ _
theorem zgu{S:Addr}{o:Obj}{es:Array (Int×Value)}{ep:Nat}{t:SetTable}{Q:Value->Shared->Prop}(ho:s.heap.get? S=some o)(hc:o.cls = .type "set")(hd:o.data = .set es ep t)(hf:t.fits es.size=true)(hb:es.size<scanBound)(hG:TabG (!zbi w) t)
  (hQ:∀I s',zie prog w S es s s' I->Q (.ref I) s'):wpAny (model prog w) A (pyIter (.ref S)) Q E s:=by
 have hT:s.TypeIs (.ref S) "set":=⟨o,ho,hc⟩
 have hSlt:=xAc ho;have hz:t.place.size=es.size:=by
  have:=hf;unfold SetTable.fits at this;simp only[xAv,beq_iff_eq]at this;exact this.1
 refine wpAny_pyIter_slot hT F.slot_set_iter (xAF F.slot_set_iter hT ydc ?_ (F.args_set_iter_1 _));unfold Builtin.«frozenset.__iter__» Builtin.Frozenset.slot0 Builtin.Frozenset.sizeOf;refine xA0 (xBf (a:=S) rfl ?_);refine xA0 (xA0 (wpAny_setEntries_of ho hd hf (xA3 ?_)));unfold setDrawn setsByText;refine xA0 (xA0 (wpAny_setState_of ho hd hf ?_));dsimp only;refine xA0 (xA0 (wpAny_askSetting (xA3 (xA3 ?_))));refine xB3 (λh=>?_) (λh=>?_)
 ·have h':(!zbi w&&(!t.plain&&decide (es.size>1)))=true:=h;refine xA0 (yd8 _ _ _ _ xAt λps d' hps=>?_);have hlen:ps.length=es.size:=by rw[hps.length_eq,xAt]
  refine xA0 (wpAny_newTuple ?_ (by rw[xA1,hlen];exact fits_of_scanBound hb));have o1:(s.heap.push { cls:=.type "tuple",data:=.seq (ps.map λ(p:Nat)=>rawInt p).toArray }).get? S=some o:=xA2 _ ho;unfold setEpoch;refine xA0 (xA0 (wpAny_setState_of o1 hd hf (xA3 ?_)));unfold newFields;refine xA0 (xAs ?_ (by size_fits));refine xA3 ⟨_,rfl,"set_iterator",_,⟨_,xA6 _ rfl,rfl⟩,zau.lookup,hQ _ _ ?_⟩;have hI:(s.heap.push { cls:=.type "tuple",data:=.seq (ps.map λ(p:Nat)=>rawInt p).toArray }).objs.size=s.heap.objs.size+1:=xB4 _ _;have e2:∀b o',s.heap.get? b=some o'->((s.heap.push { cls:=.type "tuple",data:=.seq (ps.map λ(p:Nat)=>rawInt p).toArray }).push { cls:=.type "set_iterator",data:=.fields #[.ref s.heap.objs.size,rawInt 0,.ref S,rawInt es.size,rawInt ep] }).get? b=some o':=λb o' e=>xA2 _ (xA2 _ e)
  refine⟨_,[(s.heap.push { cls:=.type "tuple",data:=.seq (ps.map λ(p:Nat)=>rawInt p).toArray }).objs.size,S,s.heap.objs.size],_,yfn hps,λA hh=>yfj (t:=t) (ep:=ep) hh ?_ ?_ hps,⟨⟨_,xA6 _ rfl,rfl,rfl⟩,⟨o,e2 S o ho,hd,hf⟩,⟨_,xA2 _ (xA6 _ rfl),rfl,0,rfl⟩⟩,?_,by simp,⟨_,xA6 _ rfl,rfl⟩,e2,?_,rfl,rfl,xA4 _,?_⟩
  ·rw[hI];exact xAy (Nat.lt_succ_of_lt hSlt)
  ·rw[hI];exact xAy (Nat.lt_succ_self _)
  ·intro b hb;simp only[xAa,xAk,xB0]at hb;show b<((s.heap.push _).push _).objs.size;rw[xB4,hI];rcases hb with rfl|rfl|rfl
   ·rw[hI];exact Nat.lt_succ_self _
   ·exact Nat.lt_succ_of_lt (Nat.lt_succ_of_lt hSlt)
   ·exact Nat.lt_succ_of_lt (Nat.lt_succ_self _)
  ·show s.heap.objs.size<=(s.heap.push _).objs.size;rw[hI];exact Nat.le_succ _
  ·intro b hb;simp only[xAa,xAk,xB0]at hb;rcases hb with rfl|rfl|rfl
   ·right;rw[hI];exact Nat.le_succ _
   ·exact .inl rfl
   ·exact .inr (xA4 _)
 ·have h':¬ (!zbi w&&(!t.plain&&decide (es.size>1)))=true:=h;refine xA0 (xA3 ?_);unfold setEpoch;refine xA0 (xA0 (wpAny_setState_of ho hd hf (xA3 ?_)));unfold newFields;refine xA0 (xAs ?_ (by size_fits));refine xA3 ⟨_,rfl,"set_iterator",_,⟨_,xA6 _ rfl,rfl⟩,zau.lookup,hQ _ _ ?_⟩;have e2:∀b o',s.heap.get? b=some o'->(s.heap.push { cls:=.type "set_iterator",data:=.fields #[rawInt 0,rawInt 0,.ref S,rawInt es.size,rawInt ep] }).get? b=some o':=λb o' e=>xA2 _ e
  have hin:∀b∈[s.heap.objs.size,S],b<(s.heap.push { cls:=.type "set_iterator",data:=.fields #[rawInt 0,rawInt 0,.ref S,rawInt es.size,rawInt ep] }).objs.size:=by
   intro b hb;simp only[xAa,xAk,xB0]at hb;rw[xB4];rcases hb with rfl|rfl
   ·exact Nat.lt_succ_self _
   ·exact Nat.lt_succ_of_lt hSlt
  have hin2:∀b∈[s.heap.objs.size,S],b=S\/s.heap.objs.size<=b:=by
   intro b hb;simp only[xAa,xAk,xB0]at hb;rcases hb with rfl|rfl
   ·exact .inr (xA4 _)
   ·exact .inl rfl
  by_cases hbt:zbi w=true
  ·exact⟨_,[s.heap.objs.size,S],_,(yc7 (w.params.setOrder S ep) es).map _,λA hh=>zfD (t:=t) (ep:=ep) hh (xAy hSlt) hbt,⟨⟨_,xA6 _ rfl,rfl,rfl⟩,⟨o,e2 S o ho,hd,hf⟩⟩,hin,by simp,⟨_,xA6 _ rfl,rfl⟩,e2,xA4 _,rfl,rfl,xA4 _,hin2⟩
  ·have hbf:zbi w=false:=by simpa using hbt
   have hled:t.led=true:=by rw[hG.led,hbf];rfl
   have hp:t.plain=true\/es.size<=1:=by
    rw[hbf]at h';cases hpl:t.plain
    ·rw[hpl]at h';simp at h';exact .inr h'
    ·exact .inl rfl
   have hr:Rise t.place:=by
    rcases hp with hp|hp
    ·exact hG.rise hp
    ·exact zfx ()
   exact⟨_,[s.heap.objs.size,S],_,List.Perm.refl _,λA hh=>yfq (t:=t) (ep:=ep) hh (xAy hSlt) hbf hled hp hr hz,⟨⟨_,xA6 _ rfl,rfl,rfl⟩,⟨o,e2 S o ho,hd,hf⟩⟩,hin,by simp,⟨_,xA6 _ rfl,rfl⟩,e2,xA4 _,rfl,rfl,xA4 _,hin2⟩
end
end L2
end
section
-- text: ExtR
namespace L2
open PySem PyProof.Rows
theorem yec:typeLookup (.type "set") "__len__"=pure (some (.builtin "set.__len__")):=by rw[typeLookup_type,xBd];kernel_rfl
section
variable {prog:Program} {w:World} {A:Around} {E:Value->Shared->Prop} {s:Shared}
structure Left(s s':Shared):Prop where
 heap:∀b o,s.heap.get? b=some o->s'.heap.get? b=some o
 gens:s'.gens=s.gens
 os:s'.os=s.os
 toks:s.toks<=s'.toks
 size:s.heap.objs.size<=s'.heap.objs.size
theorem zgE{vs:List Value}{n:Nat}{acc:Array Value}(hn:vs.length=n)(h:ItemsOf (λi v=>vs[i]?=some v) acc n):acc.toList=vs:=by
 refine List.ext_getElem? λi=>?_
 by_cases c:i<n
 ·have h1:acc[i]?=some (acc[i]'(by rw[h.1];exact c)):=xB5 _;rw[Array.getElem?_toList,h1];exact(h.2 i _ h1).symm
 ·rw[Array.getElem?_toList,Array.getElem?_eq_none (by rw[h.1];omega),List.getElem?_eq_none ()]
theorem zeo{S:Addr}{o:Obj}{es:Array (Int×Value)}{ep:Nat}{t:SetTable}{Q:List Value->Shared->Prop}(hh:A.handled=none)(ho:s.heap.get? S=some o)(hc:o.cls = .type "set")(hd:o.data = .set es ep t)(hf:t.fits es.size=true)(hb:es.size<scanBound)(hG:TabG (!zbi w) t)
  (hQ:∀vs s',vs.Perm (es.toList.map (·.2))->Left s s'->Q vs s'):wpAny (model prog w) A (collect (.ref S)) Q E s:=by
 have hSlt:=xAc ho;unfold collect;refine xA0 (wpAny_runValue (codeAny_builtin F.entry_proto_collect ?_));rw[xBp F.plain_proto_collect _];show wpAny _ A.in1 (newList [] >>= λl=>again (.builtin "list.__iadd__" ⟨[l,.ref S],[]⟩)) _ _ s;refine xA0 (xAs ?_);refine xA3 ⟨plainId_quiet F.plain_list_iadd _,codeAny_builtin F.entry_list_iadd ?_⟩;rw[xBp F.plain_list_iadd _];have ho1:(s.heap.push { cls:=.type "list",data:=.seq ([]:List Value).toArray }).get? S=some o:=xA2 _ ho;have hS1:(s.heap.push { cls:=.type "list",data:=.seq ([]:List Value).toArray }).get? s.heap.objs.size=some { cls:=.type "list",data:=.seq ([]:List Value).toArray }:=xA6 _ rfl;have h1:Builtin.List.listSameRef (.ref s.heap.objs.size) (.ref S)=false:=by simp[Builtin.List.listSameRef];exact Nat.ne_of_gt hSlt
 show wpAny _ A.in1 (Builtin.List.listExtendWith (.ref s.heap.objs.size) (.ref S) (.ref s.heap.objs.size)) _ _ _;unfold Builtin.List.listExtendWith;refine xA0 (wpAny_typeOf (T:="set") ⟨o,ho1,hc⟩ ?_);rw[if_neg (by rw[h1];decide)];refine xA0 (zgu ho1 hc hd hf hb hG λI s2 ⟨vs,fp,St,hp,hW,hst,hfp,hI,hT,hk,hge,hg,hos,htk,hfs⟩=>?_);have ho2:=hk S o ho1;have hS2:=hk _ _ hS1;refine xA0 (xB9 ?_);unfold Builtin.List.listLengthHint;refine xA0 (wpAny_specialOf (T:="set") ⟨o,ho2,hc⟩ yec ?_)
 (generalize hid:("set.__len__":String)=id0;(fail_if_success (clear hid id0));wp_delta;rw[show splitId id0=some ("set","__len__") from by subst hid;decide +kernel];subst hid)
 refine xA0 (wpAny_isInstance (T:="set") (b:=true) ⟨o,ho2,hc⟩ (by rw[xBt];kernel_rfl) ?_);refine xB3 (λh=>absurd h #[]) (λ_=>?_);refine xB3 (λ_=>?_) (λh=>(h ∅).elim);refine xA0 (wpAny_typeOf (T:="set") ⟨o,ho2,hc⟩ ?_);refine xA3 ?_;refine xB3 (λ_=>?_) (λh=>(h ∅).elim);refine xA0 (xBc ?_);refine xA0 ?_;show wpAny _ A.in1 (updateSeq s.heap.objs.size (·.push .none) >>= λ_=>updateSeq s.heap.objs.size (·.pop)) _ _ _;refine xA0 (wpAny_updateSeq hS2 rfl ?_);have hS3:=xAY (Obj.mapSeq (·.push Value.none)) hS2 rfl;refine wpAny_updateSeq hS3 rfl ?_;have hS4:=xAY (Obj.mapSeq (·.pop)) hS3 rfl;have hlt:s.heap.objs.size<I:=by
  have:=hge;rw[show(s.heap.push { cls:=.type "list",data:=.seq ([]:List Value).toArray }).objs.size=s.heap.objs.size+1 from xB4 _ _]at this;exact this
 have W:=hW A.in1 hh;have hSf:s.heap.objs.size∉fp:=λhm=>by
  rcases hfs _ hm with h|h
  ·exact absurd h (Nat.ne_of_gt hSlt)
  ·rw[show(s.heap.push { cls:=.type "list",data:=.seq ([]:List Value).toArray }).objs.size=s.heap.objs.size+1 from xB4 _ _]at h;exact absurd h (Nat.not_succ_le_self _)
 have oth:∀b o',b≠s.heap.objs.size->s2.heap.get? b=some o'->((s2.heap.update s.heap.objs.size (Obj.mapSeq (·.push Value.none))).update s.heap.objs.size (Obj.mapSeq (·.pop))).get? b=some o' :=
  λb o' hb e=>(xAK _ _ (Ne.symm hb)).trans ((xAK _ _ (Ne.symm hb)).trans e)
 have hlen:vs.length=es.size:=by rw[hp.length_eq,xA1,xAl]
 refine xA3 ⟨plainId_quiet F.plain_extend_loop _,codeAny_extend_loopS W (fits_of_scanBound hb) _ hSf _ es.size 0 _ _ _ rfl (xB1 _)
  (W.frame 0 s2 _ s2.toks hst (xA4 _) λb hb o e=>oth b o (λh=>hSf (h ▸ hb)) e) hS4 (ItemsOf.nil _) λs' acc' c' hm hS' hacc=>?_⟩
 show wpAny _ A (load s.heap.objs.size >>= _) _ _ s';refine xA0 (wpAny_load hS' ?_);refine xA3 ?_;rw[zgE hlen hacc];refine hQ vs s' hp ⟨λb o' e=>?_,?_,?_,?_,Nat.le_of_lt (xAc hS')⟩
 ·have hb:=xAc e;refine hm.heap b o' ?_ (oth b o' (xAy hb) (hk b o' (xA2 _ e)));simp only[xAa,xAk,xB0,not_or];exact⟨xAy hb,xAy (Nat.lt_trans hb hlt)⟩
 ·exact hm.gens.trans hg
 ·exact hm.os.trans hos
 ·exact xAM htk hm.toks
end
end L2
end
section
-- text: ExtS
namespace L2
open PySem PyProof.Rows
theorem yeh{α:Type}[BEq α][LawfulBEq α]:∀ {σ τ:List α},σ.Nodup->(∀x∈σ,x∈τ)->σ.length<=τ.length
 | [],_,_,_=>xB1 _
 |x::σ,τ,h,hs=>by
  have hx:x∈τ:=hs x xAf;have h2:=xBk.mp h;have:=yeh (σ:=σ) (τ:=τ.erase x) h2.2 λy hy=>(List.mem_erase_of_ne (λe=>h2.1 (by rw[<-e];exact hy))).mpr (hs y (xAd _ hy))
  rw[List.length_erase_of_mem hx]at this;have hp:0 < τ.length:=List.length_pos_of_mem hx;simp only[xB8];omega
theorem zdo{α:Type}[BEq α][LawfulBEq α]:∀ {σ τ:List α},σ.Nodup->(∀x∈σ,x∈τ)->τ.length<=σ.length->σ.Perm τ
 | [],τ,_,_,hl=>by
  have:τ=[]:=List.length_eq_zero_iff.mp (by simpa using hl);rw[this]
 |x::σ,τ,h,hs,hl=>by
  have hx:x∈τ:=hs x xAf;have h2:=xBk.mp h;have ih:=zdo (σ:=σ) (τ:=τ.erase x) h2.2 (λy hy=>(List.mem_erase_of_ne (λe=>h2.1 (by rw[<-e];exact hy))).mpr (hs y (xAd _ hy))) (by rw[List.length_erase_of_mem hx];simp at hl;omega);exact(List.Perm.cons x ih).trans (List.perm_cons_erase hx).symm
theorem ybo(val:Nat->Int):∀i,(firstMet val i).Nodup
 |0=>List.nodup_nil
 |i+1=>by
  rw[firstMet_succ];unfold step_dedup;split
  ·exact ybo val i
  ·rename_i hn;refine List.nodup_append.mpr ⟨ybo val i,by simp,λa ha b hb=>?_⟩;rw[xAJ]at hb;intro e;exact hn (List.any_eq_true.mpr ⟨a,ha,by rw[e,hb];exact beq_self_eq_true _⟩)
theorem zbK(ns:List Int)(k:Int):k∈firstMet (λi=>ns.getD i 0) ns.length↔k∈ns:=by
 have h:=firstMet_any (λi=>ns.getD i 0) ns.length k;have e:(List.range ns.length).map (λi=>ns.getD i 0)=ns:=by
  apply xAS
  ·simp
  ·intro i h1 h2;simp[List.getD,h2]
 rw[e]at h;have c:∀l:List Int,l.any (·==k)=true↔k∈l:=λl=>by
  rw[List.any_eq_true];exact⟨λ⟨x,hx,q⟩=>by rw[<-eq_of_beq q];exact hx,λhk=>⟨k,hk,beq_self_eq_true _⟩⟩
 rw[<-c,<-c,h]
section
variable {prog:Program} {w:World} {A:Around} {E:Value->Shared->Prop} {s:Shared}
theorem zdp:∀ {vs:List Value},(∀v∈vs,∃k t,v = .int k t)->∃ns,IntsAre vs ns/\∀k,k∈ns↔∃v∈vs,∃t,v = .int k t
 | [],_=>⟨[],.nil,λk=>⟨λh=>(nomatch h),λ⟨v,h,_⟩=>(nomatch h)⟩⟩
 |v::vs,h=>by
  obtain⟨ns,hn,hm⟩:=zdp λv' hv=>h v' (xAd _ hv)
  obtain⟨k,t,rfl⟩:=h v xAf;refine⟨k::ns,.cons k t hn,λk'=>⟨λhk=>?_,λ⟨v',hv,t',e⟩=>?_⟩⟩
  ·rcases xAa.mp hk with rfl|hk
   ·exact⟨_,xAf,t,rfl⟩
   ·obtain⟨v',hv,t',e⟩:=(hm k').mp hk;exact⟨v',xAd _ hv,t',e⟩
  ·rcases xAa.mp hv with rfl|hv
   ·cases e;exact xAf
   ·exact xAd _ ((hm k').mpr ⟨v',hv,t',e⟩)
theorem zfr{S:Addr}{Sm:Int->Bool}{n:Nat}{Q:Value->Shared->Prop}(hh:A.handled=none)(hS:SetG w prog s.heap S Sm n)(h64:n<64)
  (hQ:∀(h':Heap) (d':Drawn) (tk:Nat) (L:Addr) (ns':List Int) (out:Array Value) (e:Nat),IntsAre out.toList ns'->ns'.length=n->(∀k,k∈ns'↔Sm k=true)->ns'.Pairwise (·<=·)->(∀b o,s.heap.get? b=some o->h'.get? b=some o)->s.heap.objs.size<=L->
   h'.get? L=some (seqObj "list" out e)->Q (.ref L) { heap:=h',gens:=s.gens,drawn:=d',toks:=tk,os:=s.os }) :
  wpAny (model prog w) A (call (.builtin "sorted") [.ref S]) Q E s:=by
 obtain⟨o,es,ep,t,ho,hex,hd,hel,hmem,hb,hf,hn,hG⟩:=hS;refine Calls.call_function_entry kind_sorted plain_sorted entry_sorted (args_sorted1 _) ?_;unfold Builtin.«sorted»;refine xA0 (m:=checkCount "sorted" 1 1 _) (xA3 ?_);refine xA0 (zeo (by simp[hh]) ho hex.1 hd hf hb hG λvs s2 hp hL=>?_);have hall:∀v∈vs,∃k t,v = .int k t:=λv hv=>by
  obtain⟨e,he,rfl⟩:=xAe.mp (hp.mem_iff.mp hv);obtain⟨⟨k,hk,_⟩,_⟩:=hel e he;obtain⟨t,ht⟩:=Value.isInt_shape hk;exact⟨k,t,ht⟩
 obtain⟨ns,hI,hm⟩:=zdp hall;have hl:vs.length=n:=by rw[hp.length_eq,xA1,xAl,hn]
 refine xA0 (wpAny_newList ?_);have hoL:(s2.heap.push (seqObj "list" vs.toArray 0)).get? s2.heap.objs.size=some (seqObj "list" vs.toArray 0):=xA6 _ rfl;refine xA0 (xB9 (xAF slot_list_sort ⟨_,hoL,rfl⟩ entry_list_sort (list_sort_tree hoL hI () λout ns' a1 a2 a3=>⟨_,rfl,?_⟩) (args_list_sort _)));refine xA3 ⟨_,rfl,?_⟩;obtain⟨e,he⟩:=sortedHeap_at (out:=out) hoL;have hle:=hL.size;have hk:=hL.heap;have hg:=hL.gens;have hos:=hL.os;obtain⟨h2,g2,d2,t2,o2⟩:=s2;dsimp only at hg hos;subst hg;subst hos;refine hQ _ _ _ _ ns' out e a1 ?_ ?_ a3 (λb ob eb=>?_) hle he
 ·rw[a2.length_eq,<-IntsAre.length hI];exact hl
 ·intro k;rw[a2.mem_iff,hm,hmem];constructor
  ·rintro⟨v,hv,t',rfl⟩;obtain⟨e',he',q⟩:=xAe.mp (hp.mem_iff.mp hv);exact⟨e',he',by rw[q];exact intKind_is _ _ _ _⟩
  ·rintro⟨e',he',q⟩;obtain⟨t',ht⟩:=Value.isInt_shape q;exact⟨e'.2,hp.mem_iff.mpr (List.mem_map_of_mem he'),t',ht⟩
 ·have hlt:=xAc (hk b ob eb);rw[sortedHeap_old (xAy hlt) (by rw[show(h2.push (seqObj "list" vs.toArray 0)).objs.size=h2.objs.size+1 from xB4 _ _];exact Nat.lt_succ_of_lt hlt)];exact xA2 _ (hk b ob eb)
end
end L2
end
section
-- text: ExtT
namespace L2
open PySem PyProof.Rows
theorem yeq:bootBuiltins "set"=some (.type "set"):=by decide +kernel
theorem zbp:bootBuiltins "sorted"=some (.builtin "sorted"):=by decide +kernel
section
variable {X:Cx}
theorem Inv.redraw{pins:List (Addr×Obj)}{σ:St}{H:Hp}{s s':Shared}(I:Inv X pins σ H s)(h1:s'.heap=s.heap)(h2:s'.gens=s.gens)(h3:s'.os=s.os):Inv X pins σ H s' :=
 ⟨I.ok,by rw[h3];exact I.os,by rw[h2];exact I.bare,by rw[h1];exact I.base,by rw[h1];exact I.loc,by rw[h1];exact I.cell,I.free,I.freeC,by rw[h1];exact I.pin,by rw[h1];exact I.hok,I.len⟩
theorem Inv.more{pins:List (Addr×Obj)}{σ:St}{H:Hp}{s:Shared}{h':Heap}{tk:Nat}(I:Inv X pins σ H s)(k:∀b o,s.heap.get? b=some o->h'.get? b=some o):Inv X pins σ H { s with heap:=h',toks:=tk } :=
 I.turnedL (fp:=[]) (λb hb=>nomatch hb) λb o _ e=>k b o e
noncomputable def ygR(K:PySem.W.Frag)(te:TE):TE:=λσ H Q=>te σ H λx H1=>∃(a:Addr) (ns:List Int),x = .ref a/\SqL K H1 a (ns.map V.int)/\ns.length<4000/\(∀ks:List Int,ks.Nodup->(∀k∈ks,k∈ns)->ks.length<64)/\
 ∀(l:Addr) (ns':List Int),H1 l=none->ns'.Pairwise (· < ·)->(∀k,k∈ns'↔k∈ns)->Q (.ref l) (upd H1 l (.lst (ns'.map V.int)))
theorem zfo{e:Expr}{te:TE}{p1 p2 pos pos2:Pos}(hc:X.calm=true)(hg1:Gl X "sorted")(hm1:X.mg "sorted"=none)(hg2:Gl X "set")(hm2:X.mg "set"=none)(he:PE X e te)
  (hs:starEach [e] X.env=[(false,eval e X.env)]:=by rfl) (hs2:starEach [.Call (.Name "set" p2) [e] [] pos2] X.env=[(false,eval (.Call (.Name "set" p2) [e] [] pos2) X.env)]:=by rfl) :
  PE X (.Call (.Name "sorted" p1) [.Call (.Name "set" p2) [e] [] pos2] [] pos) (ygR X.K te):=by
 intro pins s σ H Q I h;refine wpAny_Call_Name_kw (ybE I hg1 hm1 zbp ?_ #[] #[]);refine PyProof.Rows.callWith_builtin1 ?_ hs2 rfl;rw[hs2];show wpAny _ _ (spliced ((false,eval (.Call (.Name "set" p2) [e] [] pos2) X.env)::[])) _ _ s;refine Calls.spliced_cons ?_;refine wpAny_Call_Name_kw (ybE I hg2 hm2 yeq ?_ #[] #[]);refine xAP ?_ hs rfl;rw[hs];show wpAny _ _ (spliced ((false,eval e X.env)::[])) _ _ s;refine Calls.spliced_cons (thn (he pins s σ H _ I h) λu s1 ⟨x,H1,I1,r1,a,ns,ex,ha,hl,h64,q⟩=>?_);subst ex;cases r1;refine Calls.spliced_nil ?_;obtain⟨its,r2,p2,z2⟩:=I1.list ha;have hlen:=r2.length;rw[xA1]at hlen;have hh:=I1.ok.hd hc;refine zfm hh p2.isList (by simpa using zcI r2) (by rw[xA5];unfold scanBound;omega) λh2 tk2 hS hk=>?_
 refine Calls.spliced_nil ?_;have I2:Inv X pins σ H1 { s1 with heap:=h2,toks:=tk2 }:=I1.more hk;have hsz:its.toArray.size=ns.length:=by rw[xA5,hlen]
 rw[hsz]at hS;have hfm:=ybo (λi=>ns.getD i 0) ns.length;refine zfr (s:={ s1 with heap:=h2,toks:=tk2 }) hh hS (h64 _ hfm λk hk=>(zbK ns k).mp hk) λh3 d3 tk3 L ns' out e3 b1 b2 b3 b4 b5 b6 b7=>?_
 have hmem:∀k,k∈ns'↔k∈firstMet (λi=>ns.getD i 0) ns.length:=λk=>by
  rw[b3];constructor
  ·intro h;obtain⟨y,hy,q⟩:=List.any_eq_true.mp h;rw[<-eq_of_beq q];exact hy
  ·intro h;exact List.any_eq_true.mpr ⟨k,h,beq_self_eq_true _⟩
 have hnd:ns'.Nodup:=(zdo hfm (λk hk=>(hmem k).mpr hk) (by rw[b2];exact xA4 _)).nodup_iff.mp hfm;have hlt:ns'.Pairwise (· < ·):=by
  refine List.Pairwise.imp₂ (λa b h1 h2=>?_) b4 hnd;omega
 have r3:Vals (ns'.map V.int) out.toList:=ybM b1;have I3:Inv X pins σ (upd H1 L (.lst (ns'.map V.int))) { s1 with heap:=h3,toks:=tk3 }:=I2.laid (a:=L) (t':=tk3) (o:=.lst (ns'.map V.int)) b5 b6 ⟨?_,out.toList,e3,r3,?_⟩
 ·refine⟨.ref L,_,I3.redraw rfl rfl rfl,rfl,q L ns' (I2.hok.fresh b6) hlt λk=>(hmem k).trans (zbK ns k)⟩
 ·rw[xA1,b2];have:=h64 _ hfm λk hk=>(zbK ns k).mp hk
  have:=sizeLine_eq;omega
 ·rw[b7]
end
end L2
end
section
-- text: ExtU
namespace L2
open PySem PySem.Spec PyProof.Rows
section
variable {X:Cx}
noncomputable def yiA(K:PySem.W.Frag):List V->Hp->VK->Prop:=λvs H Q=>∃(a:Addr) (ns:List Int),vs=[.ref a]/\SqL K H a (ns.map V.int)/\0<ns.length/\∀M,M∈ns->(∀a∈ns,a<=M)->Q (.int M) H
theorem zfL(hc:X.calm=true):yb0 X (.builtin "max") (yiA X.K):=by
 intro pins s σ H xs us Q I r h;obtain⟨a,ns,rfl,ha,hl,q⟩:=h;obtain⟨u,rfl,rx⟩:=zcx r;cases rx;obtain⟨its,r1,p1,z1⟩:=I.list ha;have hi:IntsAre its ns:=zcI r1;have hlist:=p1.isList;obtain⟨ys,e⟩:=hi.allInts.items;have hns:ns=ys.toList.map (·.1):=by rw[<-hi.numsOf,<-nums_intItems,<-e]
 have hsz:0<ys.size:=by
  have h3:=hl;rw[hns,xA1,xAl]at h3;exact h3
 rw[e]at hlist;refine max_intList (I.ok.hd hc) hlist hsz λv h' tk hv hk=>?_
 obtain⟨t,rfl⟩:=intItems_at hv;obtain⟨h1,h2⟩:=argBest_gt (numAt ys) (ys.size-1);refine⟨.int _,H,I.more (λb o eb=>hk b o eb),zfb _ _,q _ ?_ λb hb=>?_⟩
 ·rw[hns,numAt_eq];exact getD_mem (by rw[xA1,xAl];omega)
 ·rw[hns]at hb;obtain⟨j,hj,rfl⟩:=mem_getD hb;rw[xA1,xAl]at hj;rw[<-numAt_eq];exact h2 j ()
end
end L2
end
section
-- text: ExtV
namespace HT
open PySem PyProof.Rows
section
variable {prog:Program} {w:World} {A:Around} {E:Value->Shared->Prop} {s:Shared}
theorem zcy{sl:Addr}{t:Tok}{n:Nat}{Q:Int×Int×Nat->Shared->Prop}(hs:s.heap.IsSliceOf sl .none .none (.int (-1) t))
  (h:Q ((n:Int)-1,-1,n) s):wpAny (model prog w) A (Builtin.Slice.sliceApplied (.ref sl) (pure (n:Int))) Q E s:=by
 obtain⟨os,hos,hcs,hds⟩:=id hs;unfold Builtin.Slice.sliceApplied Builtin.Slice.sliceFields;refine xA0 (xA0 (xAU hos hds (x:=.none) rfl (xA0 (xAU hos hds (x:=.none) rfl (xA0 (xAU hos hds (x:=.int (-1) t) rfl (xA3 ?_)))))));refine xA0 (zcp (.int (-1) t) ?_);show wpAny _ _ (if ((-1:Int)==0)=true then _ else _) _ _ s;rw[if_neg #[]];refine xA0 (slicePart_none (xA0 (slicePart_none (xA0 (xA3 ?_)))));show wpAny _ _ (pure ((n:Int)-1,(-1:Int),Builtin.Slice.slicePlaces ((n:Int)-1) (-1) (-1))) _ _ s;have e:Builtin.Slice.slicePlaces ((n:Int)-1) (-1) (-1)=n:=by
  unfold Builtin.Slice.slicePlaces;rw[if_neg #[]];by_cases c:n=0
  ·subst c;rfl
  ·rw[if_pos (),show(-(-1:Int))=1 from rfl,Int.ediv_one];omega
 rw[e];exact xA3 h
theorem ze0{α β:Type}{f g:α->Option β}:∀(l:List α),(∀m∈l,f m=g m)->l.filterMap f=l.filterMap g
 | [],_=>rfl
 |x::l,h=>by
  rw[List.filterMap_cons,List.filterMap_cons,h x xAf,ze0 l λm hm=>h m (xAd _ hm)]
theorem ygM(xs:Array Value):((List.range xs.size).filterMap λ(m:Nat)=>xs[(((xs.size:Int)-1)+(m:Int)*(-1)).toNat]?).toArray=xs.toList.reverse.toArray:=by
 congr 1;have h:∀m∈List.range xs.size,xs[(((xs.size:Int)-1)+(m:Int)*(-1)).toNat]?=xs.toList.reverse[m]?:=λm hm=>by
  have hm:=xAu.mp hm;rw[List.getElem?_reverse (by simpa using hm),xAl,Array.getElem?_toList];congr 1;omega
 rw[ze0 _ h];have:=PySem.List.filterMap_getElem?_range_length xs.toList.reverse
 rwa [List.length_reverse,xAl]at this
theorem getItem_tuple_rev{t sl:Addr}{items:Array Value}{tk:Tok}{Q:Value->Shared->Prop}(ht:IsTup s.heap t items)(hs:s.heap.IsSliceOf sl .none .none (.int (-1) tk))
  (h:Q (.ref s.heap.objs.size) { s with heap:=s.heap.push { cls:=.type "tuple",data:=.seq items.toList.reverse.toArray } })
  (hsz:items.size<=sizeLine):wpAny (model prog w) A (getItem (.ref t) (.ref sl)) Q E s:=by
 have htake:sizeOk (.seq items.toList.reverse.toArray):=by
  show items.toList.reverse.toArray.size<=sizeLine;rw[xA5,List.length_reverse,xAl];exact hsz
 obtain⟨os,hos,hcs,hds⟩:=id hs;have hTs:s.TypeIs (.ref sl) "slice":=⟨os,hos,hcs⟩
 unfold getItem
 try with_reducible refine xB9 ?_
 first|refine xA0 (xA3 ?_)|skip
 refine xA0 (wpAny_sequenceKey ht.typeIs #[] ?_);refine xA0 (xAA (name:=Str.ofString "__getitem__") ht.typeIs xBi
  (xAF xBi ht.typeIs entry_tuple_getitem ?_ (args_tuple_getitem _ _)))
 show wpAny _ _ (Builtin.Tuple.tupleItemsOf (.ref t) >>= _) _ _ s;refine xA0 (tupleItemsOf_ ht ?_);refine xA0 (wpAny_typeOf hTs ?_);rw[if_pos #[]];refine xA0 (zcy hs ?_);show wpAny _ _ (if ((((items.size:Int)-1)==0&&(-1:Int)==1&&items.size==items.size)=true) then _ else _) _ _ s;rw[if_neg (by simp),ygM]
 first
  |exact xA0 (m:=Builtin.Tuple.tupleExact _) (xAs (xA3 ⟨_,rfl,xA3 h⟩) htake)
  |exact xA0 (m:=Builtin.Tuple.tupleExact _) (xAs (xA0 (xA3 (xA3 ⟨_,rfl,xA3 h⟩))) htake)
  |exact xA0 (xA0 (m:=Builtin.Tuple.tupleExact _) (xAs (xA3 (xA3 ⟨_,rfl,xA3 h⟩)) htake))
  |exact xA0 (xA0 (m:=Builtin.Tuple.tupleExact _) (xAs (xA3 ⟨_,rfl,xA3 h⟩) htake))
end
end HT
namespace L2
open PySem PyProof.Rows
section
variable {X:Cx}
noncomputable def ziw(K:PySem.W.Frag)(te:TE):TE:=λσ H Q=>te σ H λx H1=>∃a xs,x = .ref a/\SqT K H1 a xs/\∀p,H1 p=none->Q (.ref p) (upd H1 p (.tup xs.reverse))
theorem yho{e:Expr}{te:TE}{p0 p1 p2 pos:Pos}{j}(he:PE X e te):PE X (.Subscript e (.Slice none none (some (.UnaryOp .USub (.Constant (.int 1) j p0) p1)) p2) pos) (ziw X.K te):=by
 intro pins s σ H Q I h;refine Subscript_ (thn (he pins s σ H _ I h) λv s1 ⟨x,H1,I1,r1,q1⟩=>?_);obtain⟨a,xs,rfl,hx,q⟩:=q1;cases r1;refine wpAny_Slice ?_;rw[evalPart_none];refine xA3 ?_;refine xA3 ?_;rw[evalPart_some];refine thn ((yet ycX (yac (X:=X))) pins s1 σ H1 (λv H'=>v = .int (-1)/\H'=H1) I1 ⟨1,rfl,rfl,rfl⟩) λst s2 ⟨v,H2,I2,r2,e1,e2⟩=>?_
 subst e1 e2;obtain⟨t,rfl⟩:=r2;have I4:Inv X pins σ H2 { s2 with heap:=s2.heap.push { cls:=.type "slice",data:=.fields #[.none,.none,.int (-1) t] } }:=I2.kept (t':=s2.toks) λb ob q=>xA2 _ q
 obtain⟨its,r,ht,hz⟩:=I4.tuple hx;have hlen:=r.length;show wpAny (model X.prog X.w) X.A (subscriptTail e _ (.ref a) (.ref s2.heap.objs.size)) (EP X pins σ Q) X.xe { s2 with heap:=s2.heap.push { cls:=.type "slice",data:=.fields #[.none,.none,.int (-1) t] } };refine tail_any (ops:=[.ref a,.ref s2.heap.objs.size]) ht.typeIs PyProof.Rows.slot_tuple_getitem.lookup ?_ (by with_unfolding_all rfl);refine HT.getItem_tuple_rev ht (Heap.IsSliceOf.new ..) ?_ (by rw[xA5];omega);refine⟨.ref _,_,I4.laid (t':=s2.toks) (o:=.tup xs.reverse) (λb ob q=>xA2 _ q) (xA4 _) ?_,rfl,q _ (I4.hok.fresh (xA4 _))⟩;exact⟨by rw[List.length_reverse];exact hz,its.reverse,r.reverse,IsTup.new _ _⟩
end
end L2
end
section
-- text: ExtW
namespace HT
open PySem PyProof.Rows
section
variable {prog:Program} {w:World} {A:Around} {E:Value->Shared->Prop} {s:Shared}
theorem getItem_tuple_whole{t sl:Addr}{items:Array Value}{vl vu:Value}{lo hi:Option Int}{Q:Value->Shared->Prop}(ht:IsTup s.heap t items)(hs:s.heap.IsSliceOf sl vl vu .none)(pl:IsPart vl lo)(pu:IsPart vu hi)
  (hw:sIx items.size 0 lo=0/\sIx items.size items.size hi=items.size) (h:Q (.ref t) s):wpAny (model prog w) A (getItem (.ref t) (.ref sl)) Q E s:=by
 obtain⟨os,hos,hcs,hds⟩:=id hs;have hTs:s.TypeIs (.ref sl) "slice":=⟨os,hos,hcs⟩
 unfold getItem
 try with_reducible refine xB9 ?_
 first|refine xA0 (xA3 ?_)|skip
 refine xA0 (wpAny_sequenceKey ht.typeIs #[] ?_);refine xA0 (xAA (name:=Str.ofString "__getitem__") ht.typeIs xBi
  (xAF xBi ht.typeIs entry_tuple_getitem ?_ (args_tuple_getitem _ _)))
 show wpAny _ _ (Builtin.Tuple.tupleItemsOf (.ref t) >>= _) _ _ s;refine xA0 (tupleItemsOf_ ht ?_);refine xA0 (wpAny_typeOf hTs ?_);rw[if_pos #[]];refine xA0 (ybF hs pl pu ?_);have hyes:(((sIx items.size 0 lo:Nat):Int)==0&&(1:Int)==1&&(sIx items.size items.size hi-sIx items.size 0 lo)==items.size)=true:=by
  rw[hw.1,hw.2,Nat.sub_zero];simp
 show wpAny _ _ (if (((sIx items.size 0 lo:Nat):Int)==0&&(1:Int)==1&&(sIx items.size items.size hi-sIx items.size 0 lo)==items.size)=true then _ else _) _ _ s;rw[if_pos hyes];unfold Builtin.Tuple.tupleIsExact;refine xA0 (xA0 (wpAny_typeOf ht.typeIs (xA3 ?_)));rw[if_pos #[]]
 first
  |exact xA0 (xBc (xA3 ⟨_,rfl,xA3 h⟩))
  |exact xA0 (xA0 (xBc (xA3 (xA3 ⟨_,rfl,xA3 h⟩))))
  |exact xA0 (xBc (xA0 (xA3 (xA3 ⟨_,rfl,xA3 h⟩))))
  |(refine xA0 (xBc ?_);trace_state;exact xA3 h)
end
end HT
namespace L2
open PySem PyProof.Rows
section
variable {X:Cx}
noncomputable def rSlA(K:PySem.W.Frag):V->Option Int->Option Int->Hp->VK->Prop:=λx lo hi H Q=>∃a xs,x = .ref a/\SqT K H a xs/\(cutV xs lo hi=xs->Q (.ref a) H)/\∀p,H p=none->Q (.ref p) (upd H p (.tup (cutV xs lo hi)))
theorem zdM:SlR X (rSlA X.K):=by
 intro pins s σ H x v vl vu lo hi sl Q I rx hs pl pu h;obtain⟨a,xs,rfl,hx,q1,q⟩:=h;by_cases hw:HT.sIx xs.length 0 lo=0/\HT.sIx xs.length xs.length hi=xs.length
 ·cases rx;obtain⟨its,r,ht,hz⟩:=I.tuple hx;have hlen:its.toArray.size=xs.length:=by rw[xA5];exact r.length.symm
  refine⟨"tuple",_,PyProof.Rows.slot_tuple_getitem.lookup,ht.typeIs,?_⟩;refine HT.getItem_tuple_whole ht hs pl pu (by rw[hlen];exact hw) ?_;exact⟨.ref a,H,I,rfl,q1 (by unfold cutV;rw[hw.1,hw.2,Nat.sub_zero,List.drop_zero,xAX])⟩
 ·exact yh1 pins s σ H _ v vl vu lo hi sl Q I rx hs pl pu ⟨a,xs,rfl,hx,hw,q⟩
end
end L2
end
section
-- text: ExtX
namespace L2
open PySem PySem.Spec PyProof.Rows
section
variable {X:Cx}
end
end L2
end
section
-- text: ExtY
namespace L2
open PySem PySem.Spec PyProof.Rows
section
variable {X:Cx}
end
end L2
namespace L2
open PySem PySem.Spec PyProof.Rows
section
variable {X:Cx} {K:PySem.W.Frag}
end
end L2
end
section
-- text: ExtZ
namespace L2
open PySem PySem.Spec PyProof.Rows
section
variable {X:Cx}
end
structure DOk(d:PyData)(w:Nat):Prop where
 sh:d.showable=true
 nd:d.hasDict=false
 dp:d.depth<=40
 sl:d.leavesShort 8=true
 we:d.weight<=w
section
variable {X:Cx}
end
end L2
end
section
-- text: ExtRa
namespace L2
open PySem PySem.Spec PyProof.Rows
section
variable {prog:Program} {w:World} {A:Around} {E:Value->Shared->Prop} {s:Shared}
end
section
variable {X:Cx}
end
end L2
end
section
-- text: ExtRb
namespace L2
open PySem PySem.Spec PyProof.Rows
section
variable {X:Cx}
end
end L2
end
section
-- text: ExtRc
namespace L2
open PySem PySem.Spec PyProof.Rows
section
variable {X:Cx} {pins:List (Addr×Obj)} {σ:St} {H:Hp} {s:Shared} {a:Addr}
end
section
variable {X:Cx} {tg:Expr}
end
end L2
end
section
-- text: MathA
set_option autoImplicit false
namespace Dg
noncomputable def dg(p i x:Nat):Nat:=x/p^i%p
theorem ybn(p x:Nat):dg p 0 x=x%p:=by simp[dg]
theorem ybA(p i x:Nat):dg p (i+1) x=dg p i (x/p):=by
 unfold dg;rw[xAD,xAL,xBh]
theorem yii{p:Nat}(hp:2<=p)(i x:Nat):dg p i x<p:=xAC _ ()
theorem yas{p:Nat}(hp:2<=p){i k x:Nat}(h:x<p^k)(hk:k<=i):dg p i x=0:=by
 unfold dg;have:x<p^i:=xAp h (xB6 () hk);rw[Nat.div_eq_of_lt this,Nat.zero_mod]
theorem ybh(p i:Nat):dg p i 0=0:=by simp[dg]
theorem ext{p:Nat}(hp:2<=p):∀ {a b:Nat},(∀i,dg p i a=dg p i b)->a=b:=by
 intro a
 induction a using Nat.strongRecOn with
 |_ a ih=>
  intro b h;have h0:=h 0;rw[ybn,ybn]at h0;by_cases ha:a=0
  ·subst ha;have key:∀n,∀b,b<=n->(∀i,dg p i b=0)->b=0:=by
    intro n
    induction n with
    |zero=>intro b hb _;omega
    |succ n ihn=>
     intro b hb hz;by_cases hb0:b=0
     ·exact hb0
     ·have hlt:b/p<b:=Nat.div_lt_self () ();have hd:b/p=0:=ihn (b/p) () λi=>by rw[<-ybA];exact hz (i+1)
      have hm:b%p=0:=by rw[<-ybn];exact hz 0
      have:=Nat.div_add_mod b p;rw[hd,hm]at this
      simpa using this.symm
   exact(key b b (xA4 _) λi=>by rw[<-h i,ybh]).symm
  ·have hlt:a/p<a:=Nat.div_lt_self () ();have hd:a/p=b/p:=ih (a/p) hlt λi=>by rw[<-ybA,<-ybA];exact h (i+1)
   have e1:=Nat.div_add_mod a p;have e2:=Nat.div_add_mod b p;rw[<-e1,<-e2,hd,h0]
theorem yco{p:Nat}(hp:2<=p){j r:Nat}(h:∀i,j<=i->dg p i r=0):r<p^j:=by
 have hpos:0<p^j:=xB7 ();have hq:r/p^j=0:=by
  refine ext hp λi=>?_
  rw[ybh];have:=h (j+i) ();unfold dg at this ⊢;rw[Nat.pow_add,<-xBh]at this;exact this
 have:=Nat.div_add_mod r (p^j);rw[hq,Nat.mul_zero,xBu]at this;rw[<-this];exact xAC _ hpos
theorem zfN{p:Nat}(hp:2<=p){k t d:Nat}(ht:t<p^k)(hd:d<p)(i:Nat):dg p i (t+d*p^k)=if i=k then d else dg p i t:=by
 have hpos:0<p^k:=xB7 ();unfold dg;by_cases h1:i<k
 ·rw[if_neg ()];obtain⟨c,rfl⟩:∃c,k=i+(c+1):=⟨k-i-1,()⟩
  have e:d*p^(i+(c+1))=p^i*(d*p^c*p):=by rw[Nat.pow_add,xAD];ac_rfl
  rw[e,Nat.add_mul_div_left _ _ (xB7 ()),Nat.add_mul_mod_self_right]
 ·by_cases h2:i=k
  ·subst h2;rw[if_pos rfl,Nat.add_mul_div_right _ _ hpos,Nat.div_eq_of_lt ht,xBu,xAW hd]
  ·rw[if_neg h2];have hlt:t+d*p^k<p^i:=by
    have:t+d*p^k<p^(k+1):=by
     rw[xAD]
     calc t+d*p^k<p^k+d*p^k:=by omega
      _=(d+1)*p^k:=by rw[Nat.add_mul];omega
      _<=p*p^k:=Nat.mul_le_mul_right _ hd
      _=p^k*p:=xAL _ _
    exact xAp this (xB6 () ())
   rw[Nat.div_eq_of_lt hlt,Nat.div_eq_of_lt (xAp ht (xB6 () ()))]
theorem zfY{p:Nat}{k t d:Nat}(ht:t<p^k)(hd:d<p):t+d*p^k<p^(k+1):=by
 rw[xAD]
 calc t+d*p^k<p^k+d*p^k:=by omega
  _=(d+1)*p^k:=by rw[Nat.add_mul];omega
  _<=p*p^k:=Nat.mul_le_mul_right _ hd
  _=p^k*p:=xAL _ _
noncomputable def yaL(f:Nat->Nat):Nat->Nat:=λi=>if i=0 then 0 else f (i-1)
noncomputable def yaH(m:Nat)(t f:Nat->Nat):Nat->Nat:=λi=>if i<m then yaL f i+f (m-1)*t i else 0
noncomputable def tn(m:Nat)(t:Nat->Nat):Nat->(Nat->Nat)->(Nat->Nat)->Nat->Nat
 |0,_,_=>λ_=>0
 |k+1,f,y=>λi=>f 0*y i+tn m t k (λj=>f (j+1)) (yaH m t y) i
noncomputable def zby(m:Nat)(t:Nat->Nat)(q:Nat)(f:Nat->Nat):Nat->Nat:=λi=>f i+if q-m<=i/\i<q then f q*t (i-(q-m)) else 0
noncomputable def redF(m:Nat)(t:Nat->Nat):Nat->(Nat->Nat)->(Nat->Nat)
 |0,f=>f
 |j+1,f=>redF m t j (zby m t (m+j) f)
noncomputable def ydD:Nat->(Nat->Nat)->(Nat->Nat)->Nat->Nat
 |0,_,_=>λ_=>0
 |k+1,f,y=>λi=>f 0*y i+yaL (ydD k (λj=>f (j+1)) y) i
section
variable {m:Nat} {t:Nat->Nat}
theorem zgn(q c:Nat)(f g:Nat->Nat):zby m t q (λi=>c*f i+g i)=λi=>c*zby m t q f i+zby m t q g i:=by
 funext i
 unfold zby;split
 ·dsimp only;rw[Nat.mul_add,Nat.add_mul];ac_rfl
 ·simp
theorem yeR(c:Nat):∀(j:Nat) (f g:Nat->Nat),redF m t j (λi=>c*f i+g i)=λi=>c*redF m t j f i+redF m t j g i
 |0,f,g=>rfl
 |j+1,f,g=>by
  show redF m t j (zby m t (m+j) λi=>c*f i+g i)=_;rw[zgn,yeR c j];rfl
theorem zer{q:Nat}(hq:m<=q)(f:Nat->Nat):zby m t (q+1) (yaL f)=yaL (zby m t q f):=by
 funext i
 unfold zby yaL;by_cases h0:i=0
 ·subst h0;rw[if_pos rfl,if_pos rfl];rw[if_neg ()]
 ·rw[if_neg h0,if_neg h0,if_neg (show ¬ q+1=0 by omega)];congr 1;by_cases h1:q-m<=i-1/\i-1<q
  ·rw[if_pos h1,if_pos (),Nat.add_sub_cancel];congr 2;omega
  ·rw[if_neg h1,if_neg ()]
theorem zdg(hm:1<=m):∀(j:Nat) (f:Nat->Nat) (i:Nat),i<m->redF m t (j+1) (yaL f) i=yaH m t (redF m t j f) i
 |0,f,i,hi=>by
  show zby m t (m+0) (yaL f) i=yaH m t f i;unfold zby yaH;rw[if_pos hi,if_pos ()];congr 1;show yaL f (m+0)*t (i-(m+0-m))=_;unfold yaL;rw[if_neg ()];simp
 |j+1,f,i,hi=>by
  show redF m t (j+1) (zby m t (m+(j+1)) (yaL f)) i=yaH m t (redF m t j (zby m t (m+j) f)) i;rw[<-zdg hm j (zby m t (m+j) f) i hi,<-zer ()];rfl
theorem zeW:∀(j:Nat) (f:Nat->Nat),(∀q,m<=q->f q=0)->redF m t j f=f
 |0,f,_=>rfl
 |j+1,f,h=>by
  have e:zby m t (m+j) f=f:=by
   funext i
   unfold zby;rw[h (m+j) ()];simp
  show redF m t j (zby m t (m+j) f)=f;rw[e];exact zeW j f h
theorem yei(c:Nat)(f g:Nat->Nat):yaH m t (λi=>c*f i+g i)=λi=>c*yaH m t f i+yaH m t g i:=by
 funext i
 unfold yaH yaL;split
 ·split
  ·simp[Nat.mul_add,Nat.add_mul,Nat.mul_assoc]
  ·dsimp only;rw[Nat.mul_add,Nat.add_mul];ac_rfl
 ·simp
theorem yeH:∀(k:Nat) (f y:Nat->Nat),yaH m t (tn m t k f y)=tn m t k f (yaH m t y)
 |0,f,y=>by
  funext i
  show yaH m t (λ_=>0) i=0;unfold yaH yaL;split
  ·split <;> simp
  ·rfl
 |k+1,f,y=>by
  show yaH m t (λi=>f 0*y i+tn m t k (λj=>f (j+1)) (yaH m t y) i)=_;rw[yei,yeH k];rfl
theorem ze1(hm:1<=m):∀(k:Nat) (f y:Nat->Nat),(∀q,m<=q->y q=0)->∀i,i<m->redF m t k (ydD (k+1) f y) i=tn m t (k+1) f y i
 |0,f,y,hy,i,hi=>by
  show f 0*y i+yaL (λ_=>0) i=f 0*y i+0;unfold yaL;split <;> rfl
 |k+1,f,y,hy,i,hi=>by
  show redF m t (k+1) (λi=>f 0*y i+yaL (ydD (k+1) (λj=>f (j+1)) y) i) i=f 0*y i+tn m t (k+1) (λj=>f (j+1)) (yaH m t y) i;rw[yeR];show f 0*redF m t (k+1) y i+redF m t (k+1) (yaL (ydD (k+1) (λj=>f (j+1)) y)) i=_;rw[zeW (k+1) y hy,zdg hm k _ i hi];congr 1;have e:∀i,i<m->redF m t k (ydD (k+1) (λj=>f (j+1)) y) i=tn m t (k+1) (λj=>f (j+1)) y i:=λi hi=>ze1 hm k _ y hy i hi
  rw[<-yeH];unfold yaH yaL;rw[if_pos hi,if_pos hi,e (m-1) ()];by_cases h0:i=0
  ·rw[if_pos h0,if_pos h0]
  ·rw[if_neg h0,if_neg h0,e (i-1) ()]
end
theorem zcj{m:Nat}{t:Nat->Nat}:∀(k:Nat) (f y:Nat->Nat) (i:Nat),(∀j,f j=0)->tn m t k f y i=0
 |0,_,_,_,_=>rfl
 |k+1,f,y,i,h=>by
  show f 0*y i+tn m t k (λj=>f (j+1)) (yaH m t y) i=0;rw[h 0,zcj k _ _ i λj=>h (j+1)];simp
theorem ybC{p a b c d:Nat}(h1:a%p=c%p)(h2:b%p=d%p):(a+b)%p=(c+d)%p:=by rw[Nat.add_mod,h1,h2,<-Nat.add_mod]
theorem zdL{p a b c d:Nat}(h1:a%p=c%p)(h2:b%p=d%p):(a*b)%p=(c*d)%p:=by rw[Nat.mul_mod,h1,h2,<-Nat.mul_mod]
theorem zeC{p m:Nat}(hm:1<=m){t y y':Nat->Nat}(h:∀i,i<m->y i%p=y' i%p)(i:Nat):yaH m t y i%p=yaH m t y' i%p:=by
 unfold yaH yaL;split
 ·refine ybC ?_ (zdL (h (m-1) ()) rfl);split
  ·rfl
  ·exact h (i-1) ()
 ·rfl
theorem ybi{p m:Nat}(hm:1<=m){t:Nat->Nat}:∀(k:Nat) (f y y':Nat->Nat),(∀i,i<m->y i%p=y' i%p)->∀i,i<m->tn m t k f y i%p=tn m t k f y' i%p
 |0,_,_,_,_,_,_=>rfl
 |k+1,f,y,y',h,i,hi=>ybC (zdL rfl (h i hi)) (ybi hm k _ _ _ (λj _=>zeC hm h j) i hi)
theorem zcW(p x:Nat):(λj=>dg p (j+1) x)=λj=>dg p j (x/p):=by funext j;exact ybA p j x
theorem yej(p i x:Nat):dg p i x%p=dg p i x:=by unfold dg;exact Nat.mod_mod _ _
theorem yih{p:Nat}(hp:2<=p)(k i x:Nat):dg p i (x%p^k)=if i<k then dg p i x else 0:=by
 by_cases h:i<k
 ·rw[if_pos h];unfold dg;obtain⟨c,rfl⟩:∃c,k=i+(c+1):=⟨k-i-1,()⟩
  rw[Nat.pow_add,Nat.mod_mul_right_div_self,xAD,xAL (p^c) p,Nat.mod_mul_right_mod]
 ·rw[if_neg h];exact yas hp (xAC _ (xB7 ())) ()
theorem ziB{p:Nat}(hp:2<=p)(i x:Nat):dg p i (x*p)=if i=0 then 0 else dg p (i-1) x:=by
 cases i with
 |zero=>rw[ybn,if_pos rfl,Nat.mul_mod_left]
 |succ i=>rw[if_neg (),ybA,Nat.mul_div_cancel _ ()];rfl
theorem zhM{p m x:Nat}(hp:2<=p)(hm:1<=m)(h:x<p^m):x/p^(m-1)=dg p (m-1) x:=by
 unfold dg;rw[xAW];obtain⟨c,rfl⟩:∃c,m=c+1:=⟨m-1,()⟩
 exact Nat.div_lt_of_lt_mul (by simpa[xAD]using h)
end Dg
end
section
-- text: MathB
namespace Dg
noncomputable def ofF(p:Nat):Nat->(Nat->Nat)->Nat
 |0,_=>0
 |m+1,f=>f 0%p+p*ofF p m (λj=>f (j+1))
theorem ze8{p:Nat}(hp:2<=p):∀(m:Nat) (f:Nat->Nat),ofF p m f<p^m
 |0,f=>by simp[ofF]
 |m+1,f=>by
  have h:=ze8 hp m λj=>f (j+1)
  have h1:f 0%p<p:=xAC _ ();show f 0%p+p*ofF p m (λj=>f (j+1))<p^(m+1)
  calc f 0%p+p*ofF p m (λj=>f (j+1))<p+p*ofF p m (λj=>f (j+1)):=by omega
   _=p*(ofF p m (λj=>f (j+1))+1):=by rw[Nat.mul_add,Nat.mul_one,Nat.add_comm]
   _<=p*p^m:=Nat.mul_le_mul_left _ h
   _=p^(m+1):=by rw[xAD,xAL]
theorem zdW{p:Nat}(hp:2<=p):∀(m:Nat) (f:Nat->Nat) (i:Nat),dg p i (ofF p m f)=if i<m then f i%p else 0
 |0,f,i=>by simp[ofF,ybh]
 |m+1,f,i=>by
  have h1:f 0%p<p:=xAC _ ();cases i with
  |zero=>
   rw[if_pos (),ybn];show(f 0%p+p*ofF p m (λj=>f (j+1)))%p=f 0%p;rw[Nat.add_mul_mod_self_left,Nat.mod_mod]
  |succ i=>
   rw[ybA];show dg p i ((f 0%p+p*ofF p m (λj=>f (j+1)))/p)=_;rw[Nat.add_mul_div_left _ _ (),Nat.div_eq_of_lt h1,xBu,zdW hp m];by_cases h:i<m
   ·rw[if_pos h,if_pos ()]
   ·rw[if_neg h,if_neg ()]
theorem zbE{p:Nat}(hp:2<=p){m a b:Nat}(ha:a<p^m)(hb:b<p^m)(h:∀i,i<m->dg p i a=dg p i b):a=b :=
 ext hp λi=>by
  by_cases hi:i<m
  ·exact h i hi
  ·rw[yas hp ha (),yas hp hb ()]
noncomputable abbrev dgs(p x:Nat):Nat->Nat:=λi=>dg p i x
noncomputable def add(p m x y:Nat):Nat:=ofF p m λi=>dg p i x+dg p i y
noncomputable def sub(p m x y:Nat):Nat:=ofF p m λi=>dg p i x+(p-1)*dg p i y
noncomputable def up(p m t x:Nat):Nat:=ofF p m (yaH m (dgs p t) (dgs p x))
noncomputable def mulN(p m t:Nat):Nat->Nat->Nat->Nat
 |0,_,_=>0
 |k+1,x,y=>ofF p m λi=>x%p*dg p i y+dg p i (mulN p m t k (x/p) (up p m t y))
noncomputable def mul(p m t x y:Nat):Nat:=mulN p m t m x y
section
variable {p m t:Nat} (hp:2<=p) (hm:1<=m)
include hp hm
theorem ygd:∀(k x y i:Nat),i<m->dg p i (mulN p m t k x y)=tn m (dgs p t) k (dgs p x) (dgs p y) i%p
 |0,x,y,i,hi=>by show dg p i 0=0%p;rw[ybh];simp
 |k+1,x,y,i,hi=>by
  show dg p i (ofF p m λi=>x%p*dg p i y+dg p i (mulN p m t k (x/p) (up p m t y)))=_;rw[zdW hp,if_pos hi];show _=(dg p 0 x*dg p i y+tn m (dgs p t) k (λj=>dg p (j+1) x) (yaH m (dgs p t) (dgs p y)) i)%p;rw[ygd k _ _ i hi,ybn];refine ybC rfl ?_;rw[Nat.mod_mod,zcW];refine ybi hm k _ _ _ (λj hj=>?_) i hi;show dg p j (up p m t y)%p=_;unfold up;rw[zdW hp,if_pos hj,Nat.mod_mod]
theorem zhC:∀(k x y:Nat),mulN p m t k x y<p^m
 |0,x,y=>xB7 ()
 |k+1,x,y=>ze8 hp _ _
theorem zaw(x y:Nat):mul p m t x y<p^m:=zhC hp hm _ _ _
theorem zbg(x y:Nat):add p m x y<p^m:=ze8 hp _ _
theorem zbX(x y:Nat):sub p m x y<p^m:=ze8 hp _ _
theorem zbs(x y i:Nat)(hi:i<m):dg p i (mul p m t x y)=tn m (dgs p t) m (dgs p x) (dgs p y) i%p:=ygd hp hm m x y i hi
theorem ybD(x y i:Nat)(hi:i<m):dg p i (add p m x y)=(dg p i x+dg p i y)%p:=by unfold add;rw[zdW hp,if_pos hi]
theorem yeW(x y i:Nat)(hi:i<m):dg p i (sub p m x y)=(dg p i x+(p-1)*dg p i y)%p:=by unfold sub;rw[zdW hp,if_pos hi]
theorem zbH{x y r:Nat}(hr:r<p^m)(h:∀i,i<m->dg p i r=tn m (dgs p t) m (dgs p x) (dgs p y) i%p):r=mul p m t x y :=
 zbE hp hr (zaw hp hm x y) λi hi=>by rw[h i hi,zbs hp hm x y i hi]
theorem ydn{x y r:Nat}(hx:x<p^m)(hy:y<p^m)(h:∀i,dg p i r=(dg p i x+dg p i y)%p):r=add p m x y :=
 ext hp λi=>by
  by_cases hi:i<m
  ·rw[h,ybD hp hm x y i hi]
  ·rw[h,yas hp (zbg hp hm x y) (),yas hp hx (),yas hp hy ()];simp
theorem zeS{x y r:Nat}(hx:x<p^m)(hy:y<p^m)(h:∀i,dg p i r=(dg p i x+(p-1)*dg p i y)%p):r=sub p m x y :=
 ext hp λi=>by
  by_cases hi:i<m
  ·rw[h,yeW hp hm x y i hi]
  ·rw[h,yas hp (zbX hp hm x y) (),yas hp hx (),yas hp hy ()];simp
end
section
variable {m:Nat} {t:Nat->Nat}
theorem ydU(c:Nat):∀(k:Nat) (f y z:Nat->Nat),tn m t k f (λi=>c*y i+z i)=λi=>c*tn m t k f y i+tn m t k f z i
 |0,f,y,z=>by funext i;rfl
 |k+1,f,y,z=>by
  funext i
  show f 0*(c*y i+z i)+tn m t k (λj=>f (j+1)) (yaH m t λi=>c*y i+z i) i=c*(f 0*y i+tn m t k (λj=>f (j+1)) (yaH m t y) i)+(f 0*z i+tn m t k (λj=>f (j+1)) (yaH m t z) i);rw[yei,ydU c k];dsimp only;rw[Nat.mul_add,Nat.mul_add,Nat.mul_left_comm];omega
theorem yeN:∀(k l:Nat) (f g y:Nat->Nat),tn m t k f (tn m t l g y)=tn m t l g (tn m t k f y)
 |0,l,f,g,y=>by
  show(λ_=>0)=tn m t l g (λ_=>0);have h:=ydU (m:=m) (t:=t) 0 l g (λ_=>0) (λ_=>0)
  funext i
  have h2:=ydU (m:=m) (t:=t) 1 l g (λ_=>0) (λ_=>0);have h3:=congrFun h2 i;simp at h3;exact h3.symm
 |k+1,l,f,g,y=>by
  show(λi=>f 0*tn m t l g y i+tn m t k (λj=>f (j+1)) (yaH m t (tn m t l g y)) i)=tn m t l g (λi=>f 0*y i+tn m t k (λj=>f (j+1)) (yaH m t y) i);rw[yeH,yeN k,ydU]
noncomputable def ybW(s:Nat):Nat->Nat:=λi=>if i=s then 1 else 0
theorem zf4{s:Nat}(h:s+1<m):yaH m t (ybW s)=ybW (s+1):=by
 funext i
 unfold yaH yaL ybW;rw[if_neg (show ¬ m-1=s by omega),Nat.zero_mul,Nat.add_zero];by_cases hi:i<m
 ·rw[if_pos hi];by_cases h0:i=0
  ·rw[if_pos h0,if_neg ()]
  ·rw[if_neg h0];by_cases hs:i-1=s
   ·rw[if_pos hs,if_pos ()]
   ·rw[if_neg hs,if_neg ()]
 ·rw[if_neg hi,if_neg ()]
theorem zfR:∀(k s:Nat) (f:Nat->Nat) (i:Nat),s+k<=m->tn m t k f (ybW s) i=if s<=i/\i<s+k then f (i-s) else 0
 |0,s,f,i,_=>by rw[if_neg ()];rfl
 |k+1,s,f,i,h=>by
  show f 0*ybW s i+tn m t k (λj=>f (j+1)) (yaH m t (ybW s)) i=_;cases k with
  |zero=>
   show f 0*ybW s i+0=_;unfold ybW;by_cases hi:i=s
   ·rw[if_pos hi,if_pos ()];subst hi;simp
   ·rw[if_neg hi,if_neg ()];simp
  |succ k=>
   rw[zf4 (),zfR (k+1) (s+1) _ i ()];unfold ybW;by_cases hi:i=s
   ·subst hi;rw[if_pos rfl,if_neg (),if_pos ()];simp
   ·rw[if_neg hi];by_cases h2:s+1<=i/\i<s+1+(k+1)
    ·rw[if_pos h2,if_pos ()];show f 0*0+f (i-(s+1)+1)=f (i-s);rw[Nat.mul_zero,xBu];congr 1;omega
    ·rw[if_neg h2,if_neg ()];simp
theorem zfK(f:Nat->Nat)(i:Nat)(hi:i<m):tn m t m f (ybW 0) i=f i:=by
 rw[zfR m 0 f i (),if_pos (),Nat.sub_zero]
end
section
variable {p m t:Nat} (hp:2<=p) (hm:1<=m)
include hp hm
theorem mul_comm(x y:Nat):mul p m t x y=mul p m t y x:=by
 refine zbE hp (zaw hp hm _ _) (zaw hp hm _ _) λi hi=>?_
 rw[zbs hp hm _ _ i hi,zbs hp hm _ _ i hi];have h1:=ybi (p:=p) hm (t:=dgs p t) m (dgs p x) (dgs p y) (tn m (dgs p t) m (dgs p y) (ybW 0)) (λj hj=>by rw[zfK _ j hj]) i hi;have h2:=ybi (p:=p) hm (t:=dgs p t) m (dgs p y) (dgs p x) (tn m (dgs p t) m (dgs p x) (ybW 0)) (λj hj=>by rw[zfK _ j hj]) i hi;rw[h1,h2,yeN]
theorem mul_left_comm(x y z:Nat):mul p m t x (mul p m t y z)=mul p m t y (mul p m t x z):=by
 refine zbE hp (zaw hp hm _ _) (zaw hp hm _ _) λi hi=>?_
 rw[zbs hp hm _ _ i hi,zbs hp hm _ _ i hi];have h1:=ybi (p:=p) hm (t:=dgs p t) m (dgs p x) (dgs p (mul p m t y z)) (tn m (dgs p t) m (dgs p y) (dgs p z)) (λj hj=>by show dg p j _%p=_;rw[zbs hp hm _ _ j hj,Nat.mod_mod]) i hi;have h2:=ybi (p:=p) hm (t:=dgs p t) m (dgs p y) (dgs p (mul p m t x z)) (tn m (dgs p t) m (dgs p x) (dgs p z)) (λj hj=>by show dg p j _%p=_;rw[zbs hp hm _ _ j hj,Nat.mod_mod]) i hi;rw[h1,h2,yeN]
theorem mul_assoc(x y z:Nat):mul p m t (mul p m t x y) z=mul p m t x (mul p m t y z):=by
 rw[mul_comm hp hm _ z,mul_left_comm hp hm z x y,mul_comm hp hm z y]
theorem mul_add(x y z:Nat):mul p m t x (add p m y z)=add p m (mul p m t x y) (mul p m t x z):=by
 refine zbE hp (zaw hp hm _ _) (zbg hp hm _ _) λi hi=>?_
 rw[zbs hp hm _ _ i hi,ybD hp hm _ _ i hi,zbs hp hm _ _ i hi,zbs hp hm _ _ i hi];have h1:=ybi (p:=p) hm (t:=dgs p t) m (dgs p x) (dgs p (add p m y z)) (λi=>1*dgs p y i+dgs p z i) (λj hj=>by show dg p j _%p=(1*dg p j y+dg p j z)%p;rw[ybD hp hm _ _ j hj,Nat.mod_mod,Nat.one_mul]) i hi;rw[h1,ydU];dsimp only;rw[Nat.one_mul,<-Nat.add_mod]
theorem yax:1<p^m:=by
 have:p^1<=p^m:=xB6 () hm;rw[Nat.pow_one]at this;omega
theorem zhg(i:Nat):dg p i 1=ybW 0 i:=by
 unfold ybW;cases i with
 |zero=>rw[ybn,if_pos rfl,xAW ()]
 |succ i=>rw[if_neg (),ybA,Nat.div_eq_of_lt (),ybh]
theorem mul_one{x:Nat}(hx:x<p^m):mul p m t x 1=x:=by
 refine zbE hp (zaw hp hm _ _) hx λi hi=>?_
 rw[zbs hp hm _ _ i hi,show dgs p 1=ybW 0 from funext λi=>zhg hp hm i,zfK _ i hi,yej]
theorem one_mul{x:Nat}(hx:x<p^m):mul p m t 1 x=x:=by rw[mul_comm hp hm,mul_one hp hm hx]
theorem zero_mul(x:Nat):mul p m t 0 x=0:=by
 refine zbE hp (zaw hp hm _ _) (xB7 ()) λi hi=>?_
 rw[zbs hp hm _ _ i hi,zcj _ _ _ _ (λj=>ybh p j),ybh];simp
theorem mul_zero(x:Nat):mul p m t x 0=0:=by rw[mul_comm hp hm,zero_mul hp hm]
theorem add_comm(x y:Nat):add p m x y=add p m y x:=by
 unfold add;congr 1;funext i;exact Nat.add_comm _ _
theorem add_assoc(x y z:Nat):add p m (add p m x y) z=add p m x (add p m y z):=by
 refine zbE hp (zbg hp hm _ _) (zbg hp hm _ _) λi hi=>?_
 rw[ybD hp hm _ _ i hi,ybD hp hm _ _ i hi,ybD hp hm _ _ i hi,ybD hp hm _ _ i hi,Nat.mod_add_mod,Nat.add_mod_mod,Nat.add_assoc]
theorem add_zero{x:Nat}(hx:x<p^m):add p m x 0=x:=by
 refine zbE hp (zbg hp hm _ _) hx λi hi=>?_
 rw[ybD hp hm _ _ i hi,ybh,Nat.add_zero,yej]
theorem zero_add{x:Nat}(hx:x<p^m):add p m 0 x=x:=by rw[add_comm hp hm,add_zero hp hm hx]
theorem zcn{x y:Nat}(hx:x<p^m):add p m (sub p m x y) y=x:=by
 refine zbE hp (zbg hp hm _ _) hx λi hi=>?_
 rw[ybD hp hm _ _ i hi,yeW hp hm _ _ i hi,Nat.mod_add_mod,show dg p i x+(p-1)*dg p i y+dg p i y=dg p i x+p*dg p i y by obtain⟨k,rfl⟩:∃k,p=k+1:=⟨p-1,()⟩;rw[Nat.add_sub_cancel,Nat.add_mul];omega,Nat.add_mul_mod_self_left,yej]
theorem zc2{x y:Nat}(hx:x<p^m):sub p m (add p m x y) y=x:=by
 refine zbE hp (zbX hp hm _ _) hx λi hi=>?_
 rw[yeW hp hm _ _ i hi,ybD hp hm _ _ i hi,Nat.mod_add_mod,show dg p i x+dg p i y+(p-1)*dg p i y=dg p i x+p*dg p i y by obtain⟨k,rfl⟩:∃k,p=k+1:=⟨p-1,()⟩;rw[Nat.add_sub_cancel,Nat.add_mul];omega,Nat.add_mul_mod_self_left,yej]
noncomputable def pw(p m t x:Nat):Nat->Nat
 |0=>1
 |n+1=>mul p m t (pw p m t x n) x
theorem zaA(x n:Nat):pw p m t x n<p^m:=by
 cases n with
 |zero=>exact yax hp hm
 |succ n=>exact zaw hp hm _ _
theorem ya6(x a:Nat):∀b,pw p m t x (a+b)=mul p m t (pw p m t x a) (pw p m t x b)
 |0=>(mul_one hp hm (zaA hp hm x a)).symm
 |b+1=>by
  show mul p m t (pw p m t x (a+b)) x=mul p m t (pw p m t x a) (mul p m t (pw p m t x b) x);rw[ya6 x a b,mul_assoc hp hm]
theorem ybY{x:Nat}(hx:x<p^m):pw p m t x 1=x:=one_mul hp hm hx
theorem yaz(x a:Nat):∀b,pw p m t x (a*b)=pw p m t (pw p m t x a) b
 |0=>rfl
 |b+1=>by
  rw[Nat.mul_succ,ya6 hp hm,yaz x a b];rfl
theorem za7:∀n,pw p m t 1 n=1
 |0=>rfl
 |n+1=>by
  show mul p m t (pw p m t 1 n) 1=1;rw[za7 n,mul_one hp hm (yax hp hm)]
theorem yck(n:Nat):pw p m t 0 (n+1)=0:=mul_zero hp hm _
theorem zcc(x y:Nat):∀n,pw p m t (mul p m t x y) n=mul p m t (pw p m t x n) (pw p m t y n)
 |0=>(mul_one hp hm (yax hp hm)).symm
 |n+1=>by
  show mul p m t (pw p m t (mul p m t x y) n) (mul p m t x y)=mul p m t (mul p m t (pw p m t x n) x) (mul p m t (pw p m t y n) y);rw[zcc x y n,mul_assoc hp hm,mul_assoc hp hm,mul_left_comm hp hm (pw p m t y n) x y]
end
end Dg
end
section
-- text: MathC
namespace Dg
noncomputable def ydS:List (Nat×Nat×List (Nat×Nat)):=[(2,1,[(1,0)]),(2,2,[(2,2),(3,3),(2,3),(2,0)]),(2,3,[(2,4),(3,7),(2,5),(2,0),(2,6),(2,0),(2,7),(3,5)]),(2,4,[(2,8),(3,15),(2,9),(2,0),(2,10),(7,7),(2,11),(3,13),(2,12),(2,0),(2,13),(3,9),(2,14),(3,11),(2,15),(3,0)]),(3,1,[(2,0)]),(3,2,[(3,3),(4,5),(4,0),(3,5),(3,0),(4,4),(3,4),(3,0),(5,5)]),(3,3,[(3,9),(5,13),(4,16),(3,11),(6,0),(3,0),(3,10),(4,17),(5,14),(3,15),(4,14),(3,0),(3,17),(4,0),(4,13),(3,16),(5,10),(3,0),(3,12),(5,0),(5,17),(3,14),(4,11),(3,0),(3,13),(4,0),(4,10)]),(5,1,[(2,0)]),(5,2,[(5,5),(6,9),(7,0),(6,0),(7,8),(5,9),(7,7),(6,8),(5,0),(6,0),(5,8),(6,0),(5,0),(6,7),(9,9),(5,7),(8,0),(5,0),(8,9),(6,6),(5,6),(8,8),(7,9),(5,0),(7,0)]),(7,1,[(3,0)]),(11,1,[(2,0)]),(13,1,[(2,0)]),(2,5,[(2,16),(3,31),(2,17),(7,13),(2,18),(2,0),(2,19),(3,29),(2,20),(2,0),(2,21),(3,25),(2,22),(3,27),(2,23),(2,0),(2,24),(7,11),(2,25),(3,17),(2,26),(3,19),(2,27),(2,0),(2,28),(3,23),(2,29),(2,0),(2,30),(2,0),(2,31),(3,21)]),(2,6,[(2,32),(3,63),(2,33),(2,0),(2,34),(11,11),(2,35),(3,61),(2,36),(3,0),(2,37),(3,57),(2,38),(3,59),(2,39),(7,25),(2,40),(13,13),(2,41),(3,49),(2,42),(3,51),(2,43),(3,0),(2,44),(3,55),(2,45),(2,0),(2,46),(7,31),(2,47),(3,53),(2,48),(2,0),(2,49),(3,33),(2,50),(3,35),(2,51),(2,0),(2,52),(3,39),(2,53),(7,21),(2,54),(2,0),(2,55),(3,37),(2,56),(3,47),(2,57),(2,0),(2,58),(3,0),(2,59),(3,45),(2,60),(7,19),(2,61),(3,41),(2,62),(3,43),(2,63),(11,13)]),(7,2,[(7,7),(8,13),(10,11),(8,0),(9,12),(8,0),(9,0),(7,13),(9,0),(8,12),(9,0),(7,0),(10,10),(9,11),(7,12),(9,10),(7,0),(8,11),(7,0),(8,0),(13,13),(7,11),(8,0),(7,0),(9,9),(8,10),(12,13),(8,0),(7,10),(11,0),(7,0),(12,12),(11,13),(8,9),(11,0),(7,9),(11,12),(7,0),(10,13),(7,0),(10,0),(8,8),(7,8),(10,0),(9,13),(10,0),(7,0),(11,11),(10,12)]),(61,1,[(2,0)]),(17,1,[(3,0)]),(19,1,[(2,0)]),(23,1,[(5,0)]),(29,1,[(2,0)]),(31,1,[(3,0)]),(37,1,[(2,0)]),(41,1,[(6,0)]),(43,1,[(3,0)]),(47,1,[(5,0)]),(53,1,[(2,0)]),(59,1,[(2,0)])]
noncomputable def menu:List (Nat×Nat):=ydS.map λc=>(c.1,c.2.1)
noncomputable def zbn(p m t b:Nat):Nat->Nat->List Nat
 |_,0=>[]
 |x,n+1=>x::zbn p m t b (mul p m t x b) n
noncomputable def lowB(p m t b:Nat):Bool:=((zbn p m t b 1 (p^m-1)).drop 1).contains 1
noncomputable def zgg(p m t b:Nat):Bool:=(List.range b).all (λc=>c==0||lowB p m t c)&&!lowB p m t b&&decide (0<b)&&(List.range (p^m)).all (λy=>y==0||(zbn p m t b 1 (p^m-1)).contains y)&&(zbn p m t b 1 (p^m)).getLast?==some 1&&decide (b<p^m)
noncomputable def yey(p m t:Nat)(c:Nat×Nat):Bool:=if c.2=0 then zgg p m t c.1 else decide (0<c.1/\c.1<p^m/\c.1<p^(m/2+1)/\c.2<p^m)&&mul p m t c.1 c.2==0
noncomputable def zd2(p m:Nat):Nat->List (Nat×Nat)->Bool
 |_,[]=>true
 |t,c::cs=>yey p m t c&&zd2 p m (t+1) cs
noncomputable def ziy:Bool:=ydS.all λc=>zd2 c.1 c.2.1 0 c.2.2
theorem zhf:ziy=true:=by decide +kernel
theorem yc1{p m t b:Nat}:∀(n k i:Nat),i<n->(zbn p m t b (pw p m t b k) n)[i]?=some (pw p m t b (k+i))
 |0,k,i,h=>absurd h (Nat.not_lt_zero _)
 |n+1,k,0,h=>rfl
 |n+1,k,i+1,h=>by
  show(zbn p m t b (pw p m t b (k+1)) n)[i]?=_;rw[yc1 n (k+1) i (),show k+1+i=k+(i+1) by omega]
theorem ycL{p m t b:Nat}:∀(n x:Nat),(zbn p m t b x n).length=n
 |0,x=>rfl
 |n+1,x=>by show(zbn p m t b _ n).length+1=_;rw[ycL n]
structure Prim(p m t b:Nat):Prop where
 lt:b<p^m
 round:pw p m t b (p^m-1)=1
 all:∀y,0<y->y<p^m->∃i,i<p^m-1/\pw p m t b i=y
 pos:0<b
 min:∀i,0<i->i<p^m-1->pw p m t b i≠1
 low:∀c,0<c->c<b->∃i,0<i/\i<p^m-1/\pw p m t c i=1
theorem zhj{p m t b:Nat}:lowB p m t b=true↔∃i,0<i/\i<p^m-1/\pw p m t b i=1:=by
 unfold lowB;rw[List.contains_iff_mem,List.mem_iff_getElem?];constructor
 ·rintro⟨j,h⟩;rw[List.getElem?_drop]at h;have hl:1+j<p^m-1:=by have:=(xAo.mp h).1;rw[ycL]at this;exact this
  have g:=yc1 (p:=p) (m:=m) (t:=t) (b:=b) (p^m-1) 0 (1+j) hl;rw[show pw p m t b 0=1 from rfl,h]at g;exact⟨1+j,(),hl,by simpa using (xAw g).symm⟩
 ·rintro⟨i,h0,hi,e⟩;refine⟨i-1,?_⟩;rw[List.getElem?_drop,show 1+(i-1)=i by omega];have g:=yc1 (p:=p) (m:=m) (t:=t) (b:=b) (p^m-1) 0 i hi;rw[show pw p m t b 0=1 from rfl,xBu,e]at g;exact g
theorem ydh{p m t b:Nat}(hq:0<p^m)(h:zgg p m t b=true):Prim p m t b:=by
 unfold zgg at h;simp only[xAv]at h;obtain⟨⟨⟨⟨⟨k1,k2⟩,k3⟩,h1⟩,h2⟩,h3⟩:=h;refine⟨xAh h3,?_,λy hy hy2=>?_,xAh k3,λi hi hi2 e=>?_,λc hc hc2=>?_⟩
 ·have e:(zbn p m t b 1 (p^m)).getLast?=some 1:=by simpa using h2
  rw[List.getLast?_eq_getElem?,ycL]at e;have g:=yc1 (p:=p) (m:=m) (t:=t) (b:=b) (p^m) 0 (p^m-1) ();rw[show pw p m t b 0=1 from rfl]at g;rw[g]at e
  simpa using xAw e
 ·rw[xAT]at h1;have g:=h1 y (xAu.mpr hy2);rw[Bool.or_eq_true]at g;rcases g with g|g
  ·have:y=0:=by simpa using g
   omega
  ·have g:y∈zbn p m t b 1 (p^m-1):=List.contains_iff_mem.mp g;obtain⟨i,hi,e⟩:=List.mem_iff_getElem.mp g;rw[ycL]at hi;have g2:=yc1 (p:=p) (m:=m) (t:=t) (b:=b) (p^m-1) 0 i hi;rw[show pw p m t b 0=1 from rfl,xA7 (by rw[ycL];exact hi),e]at g2;exact⟨i,hi,by simpa using (xAw g2).symm⟩
 ·have:=zhj.mpr ⟨i,hi,hi2,e⟩;rw[this]at k2;cases k2
 ·have g:=xAT.mp k1 c (xAu.mpr hc2);rw[Bool.or_eq_true]at g;rcases g with g|g
  ·have:c=0:=by simpa using g
   omega
  ·exact zhj.mp g
theorem ybT{p m:Nat}:∀(cs:List (Nat×Nat)) (t i:Nat) (c:Nat×Nat),zd2 p m t cs=true->cs[i]?=some c->yey p m (t+i) c=true
 | [],t,i,c,_,h=>by simp at h
 |d::cs,t,0,c,h,e=>by
  have h:(yey p m t d&&zd2 p m (t+1) cs)=true:=h;rw[xAv]at h;cases e;exact h.1
 |d::cs,t,i+1,c,h,e=>by
  have h:(yey p m t d&&zd2 p m (t+1) cs)=true:=h;rw[xAv]at h;have g:=ybT cs (t+1) i c h.2 (by simpa using e);rw[show t+(i+1)=t+1+i by omega];exact g
theorem ygK(p t x y:Nat):mul p 1 t x y=mul p 1 0 x y:=rfl
theorem yc2(p t x:Nat):∀n,pw p 1 t x n=pw p 1 0 x n
 |0=>rfl
 |n+1=>by
  show mul p 1 t (pw p 1 t x n) x=mul p 1 0 (pw p 1 0 x n) x;rw[yc2 p t x n,ygK]
structure Good(p m t:Nat):Prop where
 mem:(p,m)∈menu
 top:t<p^m
 no:m=1\/∀x y,0<x->x<p^m->x<p^(m/2+1)->0<y->y<p^m->mul p m t x y≠0
noncomputable def zg2:Bool:=ydS.all λc=>decide (2<=c.1/\1<=c.2.1/\c.1^c.2.1<=64)&&(if c.2.1=1 then decide (c.2.2.length=1)&&c.2.2.all (λd=>d.2==0) else decide (c.2.2.length=c.1^c.2.1))
theorem ycZ:zg2=true:=by decide +kernel
theorem ybt{p m:Nat}(h:(p,m)∈menu):2<=p/\1<=m/\p^m<=64:=by
 obtain⟨c,hc,e⟩:=xAe.mp h;cases e;have g:=xAT.mp ycZ c hc;rw[xAv]at g;exact xAh g.1
theorem Good.prim{p m t:Nat}(h:Good p m t):∃b,Prim p m t b:=by
 obtain⟨c,hc,e⟩:=xAe.mp h.mem;obtain⟨p',m',cs⟩:=c;obtain⟨rfl,rfl⟩:p'=p/\m'=m:=by simpa using e
 have hs:=ybt h.mem;have hq:0<p'^m':=xB7 ();have g:=xAT.mp ycZ _ hc;have a:=xAT.mp zhf _ hc;rw[xAv]at g;have g:=g.2;dsimp only at g a;by_cases h1:m'=1
 ·subst h1;rw[if_pos rfl,xAv]at g;have hl:cs.length=1:=xAh g.1;obtain⟨c,rfl⟩:∃c,cs=[c]:=by
   cases cs with
   |nil=>simp at hl
   |cons c r=>cases r with
    |nil=>exact⟨c,rfl⟩
    |cons d r=>simp at hl
  have a1:=ybT [c] 0 0 c a rfl;have c0:c.2=0:=by simpa using xAT.mp g.2 c (by simp)
  unfold yey at a1;rw[if_pos c0]at a1;have P:=ydh hq a1;refine⟨c.1,P.lt,?_,λy hy hy2=>?_,P.pos,λi h1 h2=>?_,λd h1 h2=>?_⟩
  ·rw[yc2];exact P.round
  ·obtain⟨i,hi,e⟩:=P.all y hy hy2;exact⟨i,hi,by rw[yc2];exact e⟩
  ·rw[yc2];exact P.min i h1 h2
  ·obtain⟨i,a,b,e⟩:=P.low d h1 h2;exact⟨i,a,b,by rw[yc2];exact e⟩
 ·rw[if_neg h1]at g;have hl:cs.length=p'^m':=xAh g;have ht:t<cs.length:=by rw[hl];exact h.top
  have a1:=ybT cs 0 t cs[t] a (xA7 ht);rw[xBu]at a1;unfold yey at a1;by_cases c0:cs[t].2=0
  ·rw[if_pos c0]at a1;exact⟨_,ydh hq a1⟩
  ·rw[if_neg c0,xAv]at a1;have b:=xAh a1.1;rcases h.no with h2|h2
   ·exact absurd h2 h1
   ·exact absurd (by simpa using a1.2) (h2 _ _ b.1 b.2.1 b.2.2.1 () b.2.2.2)
section
variable {p m t:Nat} (G:Good p m t)
include G
theorem Good.hp:2<=p:=(ybt G.mem).1
theorem Good.hm:1<=m:=(ybt G.mem).2.1
theorem Good.hq:p^m<=64:=(ybt G.mem).2.2
theorem Good.fermat{x:Nat}(h0:0<x)(hx:x<p^m):pw p m t x (p^m-1)=1:=by
 obtain⟨b,P⟩:=G.prim;obtain⟨i,_,rfl⟩:=P.all x h0 hx;rw[<-yaz G.hp G.hm,xAL,yaz G.hp G.hm,P.round,za7 G.hp G.hm]
theorem Good.inv{x:Nat}(h0:0<x)(hx:x<p^m):mul p m t (pw p m t x (p^m-2)) x=1:=by
 have h2:=yax G.hp G.hm;have e:p^m-1=(p^m-2)+1:=by omega
 have f:=G.fermat h0 hx;rw[e]at f;exact f
theorem Good.noz{x y:Nat}(h0:0<x)(hx:x<p^m)(k0:0<y)(hy:y<p^m):0<mul p m t x y:=by
 rcases xAO (mul p m t x y) with e|e
 ·have i:=G.inv h0 hx;have f:mul p m t (pw p m t x (p^m-2)) (mul p m t x y)=y:=by rw[<-mul_assoc G.hp G.hm,i,one_mul G.hp G.hm hy]
  rw[e,mul_zero G.hp G.hm]at f;omega
 ·exact e
theorem Good.inj{b:Nat}(P:Prim p m t b):∀i j,i<p^m-1->j<p^m-1->pw p m t b i=pw p m t b j->i=j:=by
 have key:∀i j,i<j->j<p^m-1->pw p m t b i≠pw p m t b j:=by
  intro i j hij hj e;have hp:=G.hp;have hm:=G.hm;have h1:mul p m t (pw p m t b (p^m-1-i)) (pw p m t b i)=1:=by rw[<-ya6 hp hm,show p^m-1-i+i=p^m-1 by omega,P.round]
  have h2:mul p m t (pw p m t b (p^m-1-i)) (pw p m t b j)=pw p m t b (j-i):=by
   rw[show j=i+(j-i) by omega,ya6 hp hm,<-mul_assoc hp hm,h1,one_mul hp hm (zaA hp hm _ _),show i+(j-i)-i=j-i by omega]
  rw[<-e,h1]at h2;exact P.min (j-i) () () h2.symm
 intro i j hi hj e;rcases Nat.lt_trichotomy i j with h|h|h
 ·exact absurd e (key i j h hj)
 ·exact h
 ·exact absurd e.symm (key j i h hi)
theorem Good.pw_pos{b:Nat}(h0:0<b)(hb:b<p^m):∀n,0<pw p m t b n
 |0=>by show 0<1;omega
 |n+1=>G.noz (Good.pw_pos h0 hb n) (zaA G.hp G.hm _ _) h0 hb
theorem Good.pw_mod{x:Nat}(h0:0<x)(hx:x<p^m)(n:Nat):pw p m t x (n%(p^m-1))=pw p m t x n:=by
 have e:=Nat.div_add_mod n (p^m-1);have g:pw p m t x n=mul p m t (pw p m t x ((p^m-1)*(n/(p^m-1)))) (pw p m t x (n%(p^m-1))):=by rw[<-ya6 G.hp G.hm,e]
 rw[g,yaz G.hp G.hm,G.fermat h0 hx,za7 G.hp G.hm,one_mul G.hp G.hm (zaA G.hp G.hm _ _)]
end
end Dg
end
section
-- text: MathD
namespace Dg
noncomputable def sumF(p m:Nat):Nat->(Nat->Nat)->Nat
 |0,_=>0
 |k+1,f=>add p m (sumF p m k f) (f k)
section
variable {p m t:Nat} (hp:2<=p) (hm:1<=m)
include hp hm
theorem yao:0<p^m:=xB7 ()
theorem ycb(k:Nat)(f:Nat->Nat):sumF p m k f<p^m:=by
 cases k with
 |zero=>exact yao hp hm
 |succ k=>exact zbg hp hm _ _
theorem yba(f:Nat->Nat)(k:Nat):∀d,(∀i,k<=i->i<k+d->f i=0)->sumF p m (k+d) f=sumF p m k f
 |0,_=>rfl
 |d+1,h=>by
  show add p m (sumF p m (k+d) f) (f (k+d))=_;rw[h (k+d) () (),add_zero hp hm (ycb hp hm _ _),yba f k d λi h1 h2=>h i h1 ()]
theorem yal{f g:Nat->Nat}:∀k,(∀i,i<k->f i=g i)->sumF p m k f=sumF p m k g
 |0,_=>rfl
 |k+1,h=>by
  show add p m (sumF p m k f) (f k)=add p m (sumF p m k g) (g k);rw[yal k λi hi=>h i (),h k ()]
theorem yb6{f:Nat->Nat}(hf:∀i,f i<p^m):∀k,sumF p m (k+1) f=add p m (f 0) (sumF p m k λi=>f (i+1))
 |0=>by
  show add p m 0 (f 0)=add p m (f 0) 0;rw[add_comm hp hm]
 |k+1=>by
  show add p m (sumF p m (k+1) f) (f (k+1))=add p m (f 0) (add p m (sumF p m k λi=>f (i+1)) (f (k+1)));rw[yb6 hf k,add_assoc hp hm]
end
noncomputable def conv(p m t:Nat)(xs ys:List Nat)(n:Nat):Nat:=sumF p m (n+1) λi=>mul p m t (xs.getD i 0) (ys.getD (n-i) 0)
noncomputable def ydF(p m t:Nat)(xs ys:List Nat)(k n:Nat):Nat:=sumF p m k λi=>if i<=n then mul p m t (xs.getD i 0) (ys.getD (n-i) 0) else 0
theorem yaB{xs:List Nat}{i:Nat}(h:xs.length<=i):xs.getD i 0=0:=by simp[List.getD,h]
section
variable {p m t:Nat} (hp:2<=p) (hm:1<=m)
include hp hm
theorem zcF(xs ys:List Nat)(k n:Nat):ydF p m t xs ys k n<p^m:=ycb hp hm _ _
theorem zgs(xs ys:List Nat)(n:Nat):ydF p m t xs ys xs.length n=conv p m t xs ys n:=by
 unfold ydF conv
 rcases Nat.le_total xs.length (n+1) with h|h
 ·obtain⟨d,e⟩:∃d,n+1=xs.length+d:=⟨n+1-xs.length,()⟩
  rw[e,yba hp hm _ xs.length d λi h1 h2=>by rw[yaB h1,zero_mul hp hm]];exact yal hp hm _ λi hi=>by rw[if_pos ()]
 ·obtain⟨d,e⟩:∃d,xs.length=n+1+d:=⟨xs.length-(n+1),()⟩
  rw[e,yba hp hm _ (n+1) d λi h1 h2=>by rw[if_neg ()]];exact yal hp hm _ λi hi=>by rw[if_pos ()]
end
end Dg
end
section
-- text: MathE
namespace Dg
noncomputable def val(p m t x:Nat):List Nat->Nat
 | []=>0
 |a::r=>add p m (mul p m t (val p m t x r) x) a
section
variable {p m t:Nat} (hp:2<=p) (hm:1<=m)
include hp hm
theorem add_mul(x y z:Nat):mul p m t (add p m x y) z=add p m (mul p m t x z) (mul p m t y z):=by
 rw[mul_comm hp hm,mul_add hp hm,mul_comm hp hm z x,mul_comm hp hm z y]
theorem zbt(x:Nat)(l:List Nat):val p m t x l<p^m:=by
 cases l with
 |nil=>exact yao hp hm
 |cons a r=>exact zbg hp hm _ _
theorem yaY(z:Nat):∀(k:Nat) (f:Nat->Nat),sumF p m k (λi=>mul p m t (f i) z)=mul p m t (sumF p m k f) z
 |0,f=>(zero_mul hp hm z).symm
 |k+1,f=>by
  show add p m (sumF p m k λi=>mul p m t (f i) z) (mul p m t (f k) z)=mul p m t (add p m (sumF p m k f) (f k)) z;rw[yaY z k f,add_mul hp hm]
theorem ycV:∀(k:Nat) (f g:Nat->Nat),sumF p m k (λi=>add p m (f i) (g i))=add p m (sumF p m k f) (sumF p m k g)
 |0,f,g=>(add_zero hp hm (yao hp hm)).symm
 |k+1,f,g=>by
  show add p m (sumF p m k λi=>add p m (f i) (g i)) (add p m (f k) (g k))=add p m (add p m (sumF p m k f) (f k)) (add p m (sumF p m k g) (g k));rw[ycV k f g,add_assoc hp hm,add_assoc hp hm];congr 1;rw[<-add_assoc hp hm,add_comm hp hm (sumF p m k g) (f k),add_assoc hp hm]
theorem zaP{x:Nat}(hx:x<p^m):∀l:List Nat,(∀a∈l,a<p^m)->val p m t x l=sumF p m l.length λk=>mul p m t (l.getD k 0) (pw p m t x k)
 | [],_=>rfl
 |a::r,h=>by
  have ih:=zaP hx r λb hb=>h b (xAd _ hb)
  show add p m (mul p m t (val p m t x r) x) a=sumF p m (r.length+1) _;rw[yb6 hp hm (λi=>zaw hp hm _ _)];have e0:mul p m t ((a::r).getD 0 0) (pw p m t x 0)=a:=mul_one hp hm (h a xAf);have e1:sumF p m r.length (λi=>mul p m t ((a::r).getD (i+1) 0) (pw p m t x (i+1)))=mul p m t (val p m t x r) x:=by
   rw[ih,<-yaY hp hm];refine yal hp hm _ λi hi=>?_
   show mul p m t (r.getD i 0) (mul p m t (pw p m t x i) x)=_;rw[mul_assoc hp hm]
  rw[e0,e1,add_comm hp hm]
end
end Dg
end
section
-- text: MathF
namespace Dg
noncomputable def zgS(p m t:Nat):Bool:=(List.range (p^m)).all λy=>pw p m t (add p m 1 y) p==add p m 1 (pw p m t y p)
noncomputable def zaJ(p m:Nat):Nat->List (Nat×Nat)->Bool
 |_,[]=>true
 |t,c::cs=>(if c.2=0 then zgS p m t else true)&&zaJ p m (t+1) cs
noncomputable def zhm:Bool:=ydS.all λc=>if c.2.1=1 then true else zaJ c.1 c.2.1 0 c.2.2
theorem zgd{α:Type}{f:α->Bool}{l:List α}(k:Nat)(a:(l.take k).all f=true)(b:(l.drop k).all f=true):l.all f=true:=by rw[<-List.take_append_drop k l,List.all_append,a,b];rfl
theorem ybJ{p m:Nat}:∀(k t:Nat)(cs:List (Nat×Nat)),zaJ p m t (cs.take k)=true->zaJ p m (t+k) (cs.drop k)=true->zaJ p m t cs=true
|0,_,_,_,h=>h
|_+1,_,[],_,_=>rfl
|k+1,t,c::cs,a,b=>by
 have a:((if c.2=0 then zgS p m t else true)&&zaJ p m (t+1) (cs.take k))=true:=a;rw[xAv]at a;show((if c.2=0 then zgS p m t else true)&&zaJ p m (t+1) cs)=true;rw[a.1,Bool.true_and];exact ybJ k (t+1) cs a.2 (by rw[show t+1+k=t+(k+1) by omega];exact b)
noncomputable def yf3(c:Nat×Nat×List (Nat×Nat)):Bool:=if c.2.1=1 then true else zaJ c.1 c.2.1 0 c.2.2
noncomputable def zgT:List (Nat×Nat):=(ydS.getD 13 (0,0,[])).2.2
theorem yhK:(ydS.take 13).all yf3=true:=by decide +kernel
theorem zhV:zaJ 2 6 0 (zgT.take 20)=true:=by decide +kernel
theorem yhS:zaJ 2 6 20 ((zgT.drop 20).take 20)=true:=by decide +kernel
theorem zht:zaJ 2 6 40 ((zgT.drop 20).drop 20)=true:=by decide +kernel
theorem yhE:(ydS.drop 14).all yf3=true:=by decide +kernel
theorem zhK:yf3 (ydS.getD 13 (0,0,[]))=true:=ybJ 20 0 zgT zhV (ybJ 20 20 _ yhS zht)
theorem zhE:zhm=true:=zgd (f:=yf3) 13 yhK (zgd (f:=yf3) 1 ((Bool.and_true _).trans zhK) yhE)
theorem ycv{p m:Nat}:∀(cs:List (Nat×Nat)) (t i:Nat) (c:Nat×Nat),zaJ p m t cs=true->cs[i]?=some c->c.2=0->zgS p m (t+i)=true
 | [],_,_,_,_,h,_=>by cases h
 |d::cs,t,0,c,h,e,h0=>by
  cases e;unfold zaJ at h;rw[xAv,if_pos h0]at h;exact h.1
 |d::cs,t,i+1,c,h,e,h0=>by
  unfold zaJ at h;rw[xAv]at h;have:=ycv cs (t+1) i c h.2 e h0;rw[show t+(i+1)=t+1+i by omega];exact this
section
variable {p m t:Nat} (G:Good p m t)
include G
theorem Good.pw_q{x:Nat}(hx:x<p^m):pw p m t x (p^m)=x:=by
 have h1:=yax G.hp G.hm;rcases xAO x with h|h
 ·rw[h,show p^m=(p^m-1)+1 by omega,yck G.hp G.hm]
 ·rw[show pw p m t x (p^m)=pw p m t x ((p^m-1)+1) by congr 1;omega,ya6 G.hp G.hm,G.fermat h hx,ybY G.hp G.hm hx,one_mul G.hp G.hm hx]
theorem Good.frob1{y:Nat}(hy:y<p^m):pw p m t (add p m 1 y) p=add p m 1 (pw p m t y p):=by
 obtain⟨c,hc,e⟩:=xAe.mp G.mem;obtain⟨p',m',cs⟩:=c;obtain⟨rfl,rfl⟩:p'=p/\m'=m:=by simpa using e
 by_cases h1:m'=1
 ·subst h1;have e1:=G.pw_q (zbg (m:=1) G.hp G.hm 1 y);have e2:=G.pw_q hy;rw[Nat.pow_one]at e1 e2;rw[e1,e2]
 ·have g:=xAT.mp ycZ _ hc;have a:=xAT.mp zhf _ hc;have f:=xAT.mp zhE _ hc;rw[xAv]at g;have g:=g.2;dsimp only at g a f;rw[if_neg h1]at g f;have hl:cs.length=p'^m':=xAh g;have ht:t<cs.length:=by rw[hl];exact G.top
  have a1:=ybT cs 0 t cs[t] a (xA7 ht);rw[xBu]at a1;unfold yey at a1;by_cases c0:cs[t].2=0
  ·have f1:=ycv cs 0 t cs[t] f (xA7 ht) c0;rw[xBu]at f1;have:=xAT.mp f1 y (xAu.mpr hy);exact eq_of_beq this
  ·rw[if_neg c0,xAv]at a1;have b:=xAh a1.1;rcases G.no with h2|h2
   ·exact absurd h2 h1
   ·exact absurd (by simpa using a1.2) (h2 _ _ b.1 b.2.1 b.2.2.1 () b.2.2.2)
theorem Good.frob{x y:Nat}(hx:x<p^m)(hy:y<p^m):pw p m t (add p m x y) p=add p m (pw p m t x p) (pw p m t y p):=by
 have hp:=G.hp;have hm:=G.hm;rcases xAO x with h|h
 ·rw[h,zero_add hp hm hy,show p=(p-1)+1 by omega,yck () (),<-show p=(p-1)+1 by omega,zero_add hp hm (zaA hp hm _ _)]
 ·have hi:=zaA hp hm (t:=t) x (p^m-2);have e1:y=mul p m t x (mul p m t (pw p m t x (p^m-2)) y):=by
   rw[<-mul_assoc hp hm,mul_comm hp hm x,G.inv h hx,one_mul hp hm hy]
  have e2:add p m x y=mul p m t x (add p m 1 (mul p m t (pw p m t x (p^m-2)) y)):=by
   rw[mul_add hp hm,mul_one hp hm hx,<-e1]
  rw[e2,zcc hp hm,G.frob1 (zaw hp hm _ _),mul_add hp hm,mul_one hp hm (zaA hp hm _ _),<-zcc hp hm,<-e1]
theorem Good.frobN:∀(k:Nat) {x y:Nat},x<p^m->y<p^m->pw p m t (add p m x y) (p^k)=add p m (pw p m t x (p^k)) (pw p m t y (p^k))
 |0,x,y,hx,hy=>by
  rw[Nat.pow_zero,ybY G.hp G.hm (zbg G.hp G.hm _ _),ybY G.hp G.hm hx,ybY G.hp G.hm hy]
 |k+1,x,y,hx,hy=>by
  rw[xAD,yaz G.hp G.hm,yaz G.hp G.hm,yaz G.hp G.hm,Good.frobN k hx hy,G.frob (zaA G.hp G.hm _ _) (zaA G.hp G.hm _ _)]
end
end Dg
end
section
-- text: ExtRd
namespace L2
open PySem PySem.Spec PyProof.Rows
theorem yea{j:Int}(h0:0<=j)(h1:j<2^62):∀x:Int,-2<=x->x<=j->Builtin.Range.rangeFitsLong x=true:=λx h2 h3=>by
 unfold Builtin.Range.rangeFitsLong;rw[xAv];exact⟨xAz (),xAz ()⟩
theorem ygj{j:Int}(h0:0<=j):Builtin.Range.rangeSize 0 j 1=j:=by
 unfold Builtin.Range.rangeSize;rw[if_pos #[]];split <;> omega
theorem zfl(r:Addr)(j:Int)(t u v:Tok)(h0:0<=j)(h1:j<2^62) :
  Meets (Builtin.«range.__reversed__» ⟨[.ref r],[]⟩) (λ_ R s=>s.heap.get? r=some { cls:=.type "range",dict:=none,data:=.fields #[.int 0 t,.int j u,.int 1 v],slots:=(List.toArray []) }/\R (.ok (.ret (Value.ref s.heap.objs.size))) { s with heap:=s.heap.push { cls:=Value.type "range_iterator",data:=.fields #[rawInt (j-1),rawInt j,rawInt (-1)] } }) :=
 .of_wp λprog w A R s h=>by
  obtain⟨hp,g,d,tk,os⟩:=s;obtain⟨hl,h⟩:=h;have hz:=ygj h0;have f1:=yea h0 h1 0 () h0;have f2:=yea h0 h1 j () (Int.le_refl _);have f3:Builtin.Range.rangeFitsLong 1=true:=by decide
  have f4:Builtin.Range.rangeFitsLong (-1)=true:=by decide
  have f5:Builtin.Range.rangeFitsLong (0-1)=true:=by decide
  have hsm:(!(Builtin.Range.rangeFitsLong 0&&Builtin.Range.rangeFitsLong j&&Builtin.Range.rangeFitsLong 1&&Builtin.Range.rangeFitsLong (-1)&&Builtin.Range.rangeFitsLong (0-1)&&Builtin.Range.rangeFitsLong (Builtin.Range.rangeSize 0 j 1)))=false:=by
   rw[hz,f1,f2,f3,f4,f5];rfl
  have hsm2:(Builtin.Range.rangeFitsLong 0&&Builtin.Range.rangeFitsLong j&&Builtin.Range.rangeFitsLong 1&&Builtin.Range.rangeFitsLong (-1)&&Builtin.Range.rangeFitsLong (0-1)&&Builtin.Range.rangeFitsLong (Builtin.Range.rangeSize 0 j 1))=true:=by
   rw[hz,f1,f2,f3,f4,f5];rfl
  have hc0:¬ (!(Builtin.Range.rangeFitsLong 0&&Builtin.Range.rangeFitsLong j&&Builtin.Range.rangeFitsLong 1&&Builtin.Range.rangeFitsLong (-1)&&Builtin.Range.rangeFitsLong (0-1)&&Builtin.Range.rangeFitsLong (Builtin.Range.rangeSize 0 j 1)))=true:=by
   rw[hsm];decide
  wp_walk
  refine⟨_,rfl,?_⟩;rw[hsm2,if_pos rfl,hz,show(0:Int)+(j-1)*1=j-1 by omega];exact h
theorem ydb{prog:Program}{w:World}{A:Around}{E:Value->Shared->Prop}{s:Shared}{r:Addr}{j:Int}{t u v:Tok}{Q:Value->Shared->Prop}(h0:0<=j)(h1:j<2^62)(hr:IsRange s.heap r 0 j 1 t u v)
  (h:Q (.ref s.heap.objs.size) { s with heap:=s.heap.push { cls:=Value.type "range_iterator",data:=.fields #[rawInt (j-1),rawInt j,rawInt (-1)] } }):wpAny (model prog w) A (call (.builtin "range.__reversed__") [.ref r]) Q E s :=
 call_meets F.slot_range_reversed ⟨_,hr,rfl⟩ F.entry_range_reversed (F.args_range_reversed_1 _) (zfl r j t u v h0 h1) ⟨hr,h⟩
theorem zdC{prog:Program}{w:World}{A:Around}{E:Value->Shared->Prop}{s:Shared}{r:Addr}{j:Int}{t u v:Tok}{Q₁:Value->Shared->Prop}(h0:0<=j)(h1:j<2^62)(hr:IsRange s.heap r 0 j 1 t u v)
  (h:Q₁ (.ref s.heap.objs.size) { s with heap:=s.heap.push { cls:=Value.type "range_iterator",data:=.fields #[rawInt (j-1),rawInt j,rawInt (-1)] } }) :
  codeAny (model prog w) A (.call (.builtin "reversed.__new__") ⟨[.type "reversed",.ref r],[]⟩) (wants Q₁ E) s:=by
 have hT:s.TypeIs (.ref r) "range":=⟨_,hr,rfl⟩
 refine codeAny_of_tree ?_;show wpAny _ A.in1 (do checkBuiltinCall "reversed.__new__" ⟨[.type "reversed",.ref r],[]⟩;again (.builtin "reversed.__new__" ⟨[.type "reversed",.ref r],[]⟩)) _ _ s;refine xA0 (xBf (F.newCall_reversed_1 _) (xA3 ⟨plainId_quiet F.plain_reversed_new _,codeAny_builtin F.entry_reversed_new ?_⟩));rw[xBp F.plain_reversed_new _];unfold Builtin.«reversed.__new__»;refine xA0 (xBf (newClass_reversed _) ?_)
 try dsimp only
 refine xA0 (xBf (a:=Unit.unit) (by first|rfl|kernel_rfl) ?_);refine xA0 (xBf (a:=Unit.unit) (by first|rfl|kernel_rfl) ?_)
 try dsimp only
 refine xA0 (wpAny_specialOf hT F.slot_range_reversed.lookup ?_)
 try dsimp only
 refine xA0 (xBf (F.slot_range_reversed.bind _) ?_)
 try dsimp only
 first
 |rw[if_neg (show ¬ ((Value.builtin "range.__reversed__"==Value.none)=true) from xAj)]
 |(show wpAny _ _ (if (Value.builtin "range.__reversed__"==Value.none)=true then _ else _) _ _ _;rw[if_neg (show ¬ ((Value.builtin "range.__reversed__"==Value.none)=true) from xAj)])
 refine xA0 (xBc ?_);refine xA0 (m:=runValue (.call (.builtin "range.__reversed__") ⟨[.ref r],[]⟩)) (show wpAny _ _ (call (.builtin "range.__reversed__") [.ref r]) _ _ _ from ydb h0 h1 hr ?_)
 first
 |exact xA3 h
 |exact xA0 (xA3 (xA3 h))
theorem ycy:isSubtype (.type "range_iterator") (.type "reversed")=pure false:=by rw[xBt];kernel_rfl
theorem zb3{prog:Program}{w:World}{A:Around}{E:Value->Shared->Prop}{s:Shared}{r:Addr}{j:Int}{t u v:Tok}{Q:Value->Shared->Prop}(h0:0<=j)(h1:j<2^62)(hr:IsRange s.heap r 0 j 1 t u v)
  (h:Q (.ref s.heap.objs.size) { s with heap:=s.heap.push { cls:=Value.type "range_iterator",data:=.fields #[rawInt (j-1),rawInt j,rawInt (-1)] } }):wpAny (model prog w) A (call (.type "reversed") [.ref r]) Q E s:=by
 refine callType_other (U:="range_iterator") (Q₁:=λobj s₁=>obj = .ref s.heap.objs.size/\s₁={ s with heap:=s.heap.push { cls:=Value.type "range_iterator",data:=.fields #[rawInt (j-1),rawInt j,rawInt (-1)] } }) ∅ F.create_reversed ⟨_,_,F.mro_reversed⟩ F.made_reversed ycy (F.typeCall_reversed_1 _) (zdC h0 h1 hr ⟨rfl,rfl⟩) ?_;rintro obj s₁ ⟨rfl,rfl⟩;exact⟨⟨_,xA6 _ rfl,rfl⟩,h⟩
section
variable {X:Cx}
noncomputable def yir(ta:TA):TI:=λσ H R=>ta σ H λvs H1=>∃(a:Addr) (n:Nat),vs=[.ref a]/\H1 a=some (.rng 0 (n:Int))/\n<=1000/\R (Itd ((n:Int)-1) n) H1
theorem zho{a:Expr}{ta:TA}{p pos:Pos}{tg:Expr}(hg:Gl X "reversed")(hm:X.mg "reversed"=none)(ha:PA X [a] ta)(hs:starEach [a] X.env=[(false,eval a X.env)]:=by rfl) :
  PI X tg (.Call (.Name "reversed" p) [a] [] pos) (yir ta):=by
 intro pins s σ H R I h;refine Call_ (ybE I hg hm (u:=.type "reversed") yb7 (xAP (thn (ha pos pins s σ H _ I h) λus s1 ⟨vs,H1,I1,r1,q1⟩=>?_) hs rfl));obtain⟨a,n,e,h1,hn,q⟩:=q1;subst e;cases r1 with
 |cons r rr=>
  cases rr;cases r;obtain⟨t,u,v,e⟩:=I1.hok a _ h1;refine zb3 (Int.natCast_nonneg n) () e ?_;have hri:IsRangeIter (s1.heap.push { cls:=Value.type "range_iterator",data:=.fields #[rawInt ((n:Int)-1),rawInt (n:Int),rawInt (-1)] }) s1.heap.objs.size ((n:Int)-1+((0:Nat):Int)*(-1)) ((n:Int)-((0:Nat):Int)) (-1):=by
   have e1:(n:Int)-1+((0:Nat):Int)*(-1)=(n:Int)-1:=by simp
   have e2:(n:Int)-((0:Nat):Int)=(n:Int):=by simp
   rw[e1,e2];exact xA6 _ rfl
  refine wpAny_pyIter_rangeiter hri ?_;refine⟨s1.heap.objs.size,[s1.heap.objs.size],_,_,H1,rfl,I1.kept (t':=s1.toks) λb o e=>xA2 _ e,yd5 _ ((n:Int)-1) n,hri,λb hb=>?_,q⟩;have e:b=s1.heap.objs.size:=by simpa using hb
  subst e;exact I1.fpOk (xA4 _) (I1.hok.fresh (xA4 _))
theorem yhv:IxR X (λx y H Q=>rIxL X.K x y H Q\/rIxT X.K x y H Q):=by
 intro value slice pins s σ H x y v u Q I rx ry h hs;rcases h with h|h
 ·exact yan value slice pins s σ H x y v u Q I rx ry h hs
 ·exact zax value slice pins s σ H x y v u Q I rx ry h hs
theorem yhq:SlR X (λx lo hi H Q=>rSlL X.K x lo hi H Q\/rSlA X.K x lo hi H Q):=SlR.or yeI zdM
theorem yhF{tg l:Expr}{tl:TE}(hl:PE X l tl):PI X tg l (λσ H R=>yhM X.K tl σ H R\/iTup X.K tl σ H R):=by
 intro pins s σ H R I h;rcases h with h|h
 ·exact ybc hl pins s σ H R I h
 ·exact yb9 hl pins s σ H R I h
end
end L2
end
section
-- text: ExtRh
namespace L2
open PySem PySem.Spec PyProof.Rows
section
variable {M:Model} {A:Around} {E:Value->Shared->Prop} {s:Shared}
end
section
variable {P:Program} {w:World} {K:PySem.W.Frag} {mg:Str->Option Value} {base:Heap} {N:List Str} {qual:Str} {scope:Scope} {f:Addr} {cd:Value} {A:Around} {outer:List Env} {s₀:Shared} {H₀:Hp} {E:XK}
end
end L2
end
section
-- text: ExtRi
namespace L2
open PySem PySem.Spec PyProof.Rows
section
variable {P:Program} {w:World} {K:PySem.W.Frag} {mg:Str->Option Value} {base:Heap} {N:List Str} {qual:Str} {scope:Scope} {f:Addr} {cd:Value} {A:Around} {outer:List Env} {s₀:Shared} {H₀:Hp} {E:XK}
end
section
variable {P:Program} {w:World} {K:PySem.W.Frag} {mg:Str->Option Value} {base:Heap} {N:List Str} {qual:Str} {scope:Scope} {f:Addr} {cd:Value} {A:Around} {outer:List Env} {s₀:Shared} {H₀:Hp} {E:XK}
end
section
variable {X:Cx} {pins pins':List (Addr×Obj)} {σ:St} {H:Hp} {s:Shared} {F:Addr->St->Hp->Prop} {a:Addr}
end
end L2
end
section
-- text: ExtRj
namespace L2
open PySem PySem.Spec PyProof.Rows PySem.W
section
variable {prog:Program} {w:World} {A:Around} {E:Value->Shared->Prop} {s:Shared} {K:Frag} {e C:Addr}
end
end L2
namespace L2
open PySem PySem.Spec PyProof.Rows PySem.W
section
variable {K:Frag} {mg:Str->Option Value} {Re By Nr Tm Nt Nl:Addr}
end
end L2
namespace L2
open PySem PySem.Spec PyProof.Rows
section
variable {X:Cx}
end
end L2
namespace L2
open PySem PySem.Spec PyProof.Rows
end L2
namespace L2
open PySem PySem.Spec PyProof.Rows
section
variable {X:Cx} {o e:Expr} {es:List Expr} {to:TE} {t:TA} {name:Str} {apos cpos:Pos} {T:String} {id:String} {r:V->List V->Hp->VK->Prop} {K:PySem.W.Frag}
end
end L2
end
section
-- text: ExtRk
namespace L2
open PySem PySem.Spec PyProof.Rows
section
variable {X:Cx}
end
end L2
namespace L2
open PySem PySem.Spec PyProof.Rows
section
variable {X:Cx}
end
end L2
end
section
-- text: ExtRl
namespace L2
open PySem PySem.Spec PyProof.Rows
section
variable {X:Cx}
end
end L2
namespace L2
open PySem PySem.Spec PyProof.Rows
section
variable {X:Cx}
end
end L2
namespace L2
open PySem PySem.Spec PyProof.Rows PySem.W
section
variable {K:Frag} {mg:Str->Option Value} {Re By Nr Tm:Addr}
end
end L2
end
section
-- text: ExtRm
namespace L2
open PySem PySem.Spec PyProof.Rows
section
variable {M:Model} {A:Around} {E:Value->Shared->Prop} {s:Shared}
end
section
variable {X:Cx}
end
end L2
namespace L2
open PySem PySem.Spec PyProof.Rows
end L2
end
section
-- text: ExtRn
namespace L2
open PySem PySem.Spec PyProof.Rows
section
variable {X:Cx}
end
end L2
end
section
-- text: ExtRo
namespace L2
open PySem PySem.Spec PyProof.Rows
theorem yeB(elt t1 i1 t2 i2:Expr)(scope:Scope)(pos:Pos)(it acc:Value)(env:Env) :
  compTurn (.ListComp elt [⟨t1,i1,[],0⟩,⟨t2,i2,[],0⟩] scope pos) 0 it acc env=(standAt i1.pos >>= λ_=>pyNext it >>= λr=>match r with
   |none=>pure (.done .next)
   |some v=>letOwnedTupleGo t1 it v >>= λ_=>assign t1 env v >>= λ_=>
    (eval i2 env >>= λx=>standAt i2.pos >>= λ_=>foldedSetIterable i2 env x >>= λx=>holding [x] (pyIter x) >>= λit2=>
     runOwn (.compStart (.ListComp elt [⟨t1,i1,[],0⟩,⟨t2,i2,[],0⟩] scope pos) 1 it2 acc env) env >>= λ_=>
     again (.compLoop (.ListComp elt [⟨t1,i1,[],0⟩,⟨t2,i2,[],0⟩] scope pos) 0 it acc env))):=by rfl
theorem zex(elt t1 i1 t2 i2:Expr)(scope:Scope)(pos:Pos)(it acc:Value)(env:Env) :
  compTurn (.ListComp elt [⟨t1,i1,[],0⟩,⟨t2,i2,[],0⟩] scope pos) 1 it acc env=(standAt i2.pos >>= λ_=>pyNext it >>= λr=>match r with
   |none=>pure (.done .next)
   |some v=>letOwnedTupleGo t2 it v >>= λ_=>assign t2 env v >>= λ_=>
    (eval elt env >>= λx=>call (.builtin "list.append") [acc,x] >>= λ_=>pure Unit.unit) >>= λ_=>
     again (.compLoop (.ListComp elt [⟨t1,i1,[],0⟩,⟨t2,i2,[],0⟩] scope pos) 1 it acc env)):=by rfl
section
variable {prog:Program} {w:World} {A:Around} {R:Result->Shared->Prop} {s:Shared}
theorem zbZ{elt t1 i1 t2 i2 scope pos it acc env}
  (h0:codeAny (model prog w) A (.compLoop (.ListComp elt [⟨t1,i1,[],0⟩,⟨t2,i2,[],0⟩] scope pos) 1 it acc env) R s)
  (h:wpAny (model prog w) A (pyIter it) (λit' s'=>codeAny (model prog w) A (.compLoop (.ListComp elt [⟨t1,i1,[],0⟩,⟨t2,i2,[],0⟩] scope pos) 1 it' acc env) R s')
   (notedBy (model prog w) A env λx s'=>R (.error x) s') s) :
  codeAny (model prog w) A (.compStart (.ListComp elt [⟨t1,i1,[],0⟩,⟨t2,i2,[],0⟩] scope pos) 1 it acc env) R s:=by
 refine codeAny_of_tree ?_;show wpAny _ _ ((compStart (.ListComp elt [⟨t1,i1,[],0⟩,⟨t2,i2,[],0⟩] scope pos) 1 it acc env).onRaise (λx=>do noteFrame x env;standAt theWindowsPlace)) _ _ s;refine wpAny_notedAt ?_;unfold compStart;show wpAny _ _ (ask >>= _) _ _ s;refine xA0 (wpAny_askSetting (wpAny_ite ?_));split
 ·first
   |exact xA0 (xA3 (xA3 (And.intro rfl h0)))
   |exact xA3 (And.intro rfl h0)
 ·first
   |exact xA0 (xBc (xA0 (wpAny_standAt (xA0 (xAQ h (λit' s' h'=>xA3 (And.intro rfl h')) λ_ _ x=>x)))))
   |(refine xA0 (xBc ?_);show wpAny _ _ (standAt i2.pos >>= _) _ _ s;exact xA0 (wpAny_standAt (xA0 (xAQ h (λit' s' h'=>xA3 (And.intro rfl h')) λ_ _ x=>x))))
theorem zez{elt t1 i1 t2 i2:Expr}{scope:Scope}{pos:Pos}{it acc:Value}{env:Env}(I:Nat->Shared->Prop)
  (turn:∀n s,I n s->wpAny (model prog w) A (pyNext it) (λr s₁=>match r with
   |none=>R (.ok .next) s₁
   |some v=>wpAny (model prog w) A (letOwnedTupleGo t2 it v) (λ_ s₁'=>wpAny (model prog w) A (assign t2 env v) (λ_ s₂=>
     wpAny (model prog w) A (eval elt env) (λx s₄=>
      wpAny (model prog w) A (call (.builtin "list.append") [acc,x]) (λ_ s₅=>∃m,m<n/\I m s₅) (λ_ _=>False) s₄) (λ_ _=>False) s₂) (λ_ _=>False) s₁') (λ_ _=>False) s₁) (λ_ _=>False) s)
  (n:Nat) (h:I n s):codeAny (model prog w) A (.compLoop (.ListComp elt [⟨t1,i1,[],0⟩,⟨t2,i2,[],0⟩] scope pos) 1 it acc env) R s:=by
 refine codeAny_loop rfl I (λn s hI=>?_) n h;show wpAny _ A ((compTurn (.ListComp elt [⟨t1,i1,[],0⟩,⟨t2,i2,[],0⟩] scope pos) 1 it acc env).onRaise (λx=>do noteFrame x env;theTreesLotGoes x)) _ _ s;refine wpAny_noted (wpAny_noRaise ?_);rw[zex];refine xA0 (wpAny_standAt (xA0 (xAQ (turn n s hI) (λr s₁ h₁=>?_) λ_ _ h'=>h')));cases r with
 |none=>exact xA3 h₁
 |some v=>
  refine xA0 (xAQ h₁ (λ_ s₁' h₁'=>?_) λ_ _ h'=>h');refine xA0 (xAQ h₁' (λ_ s₂ h₂=>?_) λ_ _ h'=>h');exact xA0 (xA0 (xAQ h₂ (λx s₄ h₄=>xA0 (xAQ h₄ (λ_ s₅ h₅=>xA3 (xA3 ⟨rfl,h₅⟩)) λ_ _ h'=>h')) λ_ _ h'=>h'))
theorem yeL{elt t1 i1 t2 i2:Expr}{scope:Scope}{pos:Pos}{it acc:Value}{env:Env}(I:Nat->Shared->Prop)
  (turn:∀n s,I n s->wpAny (model prog w) A (pyNext it) (λr s₁=>match r with
   |none=>R (.ok .next) s₁
   |some v=>wpAny (model prog w) A (letOwnedTupleGo t1 it v) (λ_ s₁'=>wpAny (model prog w) A (assign t1 env v) (λ_ s₂=>
     wpAny (model prog w) A (eval i2 env) (λx s₃=>wpAny (model prog w) A (pyIter x) (λit2 s₄=>
      codeAny (model prog w) A (.compStart (.ListComp elt [⟨t1,i1,[],0⟩,⟨t2,i2,[],0⟩] scope pos) 1 it2 acc env) (λr s₅=>r = .ok .next/\∃m,m<n/\I m s₅) s₄) (λ_ _=>False) s₃) (λ_ _=>False) s₂) (λ_ _=>False) s₁') (λ_ _=>False) s₁) (λ_ _=>False) s)
  (n:Nat) (h:I n s) (hs:∀x,foldedSetIterable i2 env x=pure x):codeAny (model prog w) A (.compLoop (.ListComp elt [⟨t1,i1,[],0⟩,⟨t2,i2,[],0⟩] scope pos) 0 it acc env) R s:=by
 refine codeAny_loop rfl I (λn s hI=>?_) n h;show wpAny _ A ((compTurn (.ListComp elt [⟨t1,i1,[],0⟩,⟨t2,i2,[],0⟩] scope pos) 0 it acc env).onRaise (λx=>do noteFrame x env;theTreesLotGoes x)) _ _ s;refine wpAny_noted (wpAny_noRaise ?_);rw[yeB];refine xA0 (wpAny_standAt (xA0 (xAQ (turn n s hI) (λr s₁ h₁=>?_) λ_ _ h'=>h')));cases r with
 |none=>exact xA3 h₁
 |some v=>
  refine xA0 (xAQ h₁ (λ_ s₁' h₁'=>?_) λ_ _ h'=>h');refine xA0 (xAQ h₁' (λ_ s₂ h₂=>?_) λ_ _ h'=>h');refine xA0 (xAQ h₂ (λx s₃ h₃=>?_) λ_ _ h'=>h');refine xA0 (wpAny_standAt (xA0 (xBf (hs x) (xA0 (xB9 (xAQ h₃ (λit2 s₄ h₄=>?_) λ_ _ h'=>h'))))));refine xA0 (wpAny_runOwn (codeAny_mono h₄ λr s₅ h₅=>?_));obtain⟨rfl,h₅⟩:=h₅;exact xA3 ⟨rfl,h₅⟩
end
noncomputable def tIn(wi2:TI)(g2:TG)(te:TE)(acc:List V)(N:List V->Hp->Prop):St->Hp->Prop:=λσ H=>wi2 σ H λJ H1=>∃W:Nat->Nat->St->List V->Hp->Prop,(∃m,W 0 m σ acc H1)/\∀i m σ acc H,W i m σ acc H->
 (J.stop i H/\N acc H)\/
 (J.go i H/\acc.length<sizeLine/\∃N2:St->List V->Hp->Prop,(∀σ' acc' H',N2 σ' acc' H'->∃m',m'<m/\W (i+1) m' σ' acc' H')/\∀x H',J.yld i H x H'->g2 x σ H' λσ2 H2=>te σ2 H2 λv H3=>N2 σ2 (acc++[v]) H3)
noncomputable def yg5(wi:TI)(k:Nat)(ci:List Nat)(g:TG)(wi2:TI)(g2:TG)(te:TE):TE:=λσ H Q=>wi σ H λJ H1=>∃W:ygt,(∃m,W 0 m [] H1)/\∀i m acc H,W i m acc H->
 (J.stop i H/\∀D,H D=none->Q (.ref D) (upd H D (.lst acc)))\/
 (J.go i H/\∃N:List V->Hp->Prop,(∀acc' H',N acc' H'->∃m',m'<m/\W (i+1) m' acc' H')/\∀x H',J.yld i H x H'->g x (capσ k ci σ) H' λσ2 H2=>tIn wi2 g2 te acc N σ2 H2)
section
variable {X:Cx}
theorem zh8{elt t1 i1 t2 i2:Expr}{scope:Scope}{pos:Pos}{wi2:TI}{g2:TG}{te:TE}{pins:List (Addr×Obj)}{s:Shared}{σ:St}{H:Hp}{D:Addr}{vs:List V}{us:List Value}{k:Nat}{N:List V->Hp->Prop}
  (hxe:X.xe=λ_ _=>False) (hcalm:X.calm=true) (hi:PI X t2 i2 wi2) (hg:PG X t2 g2) (he:PE X elt te)
  (hDC:D≠X.env.locals) (hDfs:D∉X.fs) (hDcell:∀x c,X.env.cells.lookup x=some c->c≠D) (hDge:X.s₀.heap.objs.size<=D) (hDp:∀p∈X.pn++pins,p.1≠D)
  (I:Inv X pins σ H s) (fD:H D=none) (eD:s.heap.get? D=some { cls:=.type "list",data:=.seq us.toArray k }) (rv:Vals vs us) (z:vs.length<=sizeLine) (h:tIn wi2 g2 te vs N σ H) :
  wpAny (model X.prog X.w) X.A (eval i2 X.env) (λv s1=>wpAny (model X.prog X.w) X.A (pyIter v) (λitv s2=>
   codeAny (model X.prog X.w) X.A (.compStart (.ListComp elt [⟨t1,i1,[],0⟩,⟨t2,i2,[],0⟩] scope pos) 1 itv (.ref D) X.env)
    (λr s'=>r = .ok .next/\∃σ' vs' us' k' H',Inv X pins σ' H' s'/\H' D=none/\s'.heap.get? D=some { cls:=.type "list",data:=.seq us'.toArray k' }/\Vals vs' us'/\vs'.length<=sizeLine/\N vs' H') s2) (λ_ _=>False) s1) (λ_ _=>False) s:=by
 let pD:List Value->Nat->List (Addr×Obj):=λus k=>[(D,{ cls:=.type "list",data:=.seq us.toArray k })]
 have memD:∀ {us k},(D,({ cls:=.type "list",data:=.seq us.toArray k }:Obj))∈X.pn++(pins++pD us k):=λ{us k}=>xAb _ (xAb _ xAf)
 have pinD:∀ {σ':St} {H':Hp} {s':Shared} {us:List Value} {k:Nat},Inv X pins σ' H' s'->H' D=none->s'.heap.get? D=some { cls:=.type "list",data:=.seq us.toArray k }->Inv X (pins++pD us k) σ' H' s':=λ{σ' H' s' us k} J f e=>
  J.pins_of λp hp=>(xAB.mp hp).elim (λz=>J.pin p (xAb _ z)) λz=>by
   have:p=(D,{ cls:=.type "list",data:=.seq us.toArray k }):=by simpa[pD]using z
   subst this;exact⟨e,f,hDC,hDfs,λv z=>by cases z⟩
 have hi2:=hi (pins++pD us k) s σ H _ (pinD I fD eD) h;rw[hxe]at hi2;refine thn hi2 λv s1 h1=>thn h1 λitv s2 h2=>?_
 obtain⟨it,fp,tn,J,H2,e,I2,T,st2,f2,W,⟨m0,w0⟩,turn⟩:=h2;subst e;have hDfp:∀b∈fp,b≠D:=λb hb zz=>(f2 b hb).2.2.2.2.2 _ memD zz.symm
 have stat:∀ {H':Hp} {us:List Value} {k:Nat},(∀b∈fp,H' b=none)->∀b∈fp,FpOk X (pins++pD us k) H' b:=λ{H' us k} hn b hb=>by
  obtain⟨_,a2,a3,a4,a5,a6⟩:=f2 b hb;refine⟨hn b hb,a2,a3,a4,a5,λp hp=>?_⟩;rcases xAB.mp hp with zz|zz
  ·exact a6 p (xAG _ zz)
  ·rcases xAB.mp zz with zz|zz
   ·exact a6 p (xAb _ (xAG _ zz))
   ·have:p=(D,{ cls:=.type "list",data:=.seq us.toArray k }):=by simpa[pD]using zz
    subst this
    exactλq=>hDfp b hb q.symm
 have loop:codeAny (model X.prog X.w) X.A (.compLoop (.ListComp elt [⟨t1,i1,[],0⟩,⟨t2,i2,[],0⟩] scope pos) 1 (.ref it) (.ref D) X.env)
   (λr s'=>r = .ok .next/\∃σ' vs' us' k' H',Inv X pins σ' H' s'/\H' D=none/\s'.heap.get? D=some { cls:=.type "list",data:=.seq us'.toArray k' }/\Vals vs' us'/\vs'.length<=sizeLine/\N vs' H') s2:=by
  refine zez (λn s'=>∃i σ' vs us k H',Inv X pins σ' H' s'/\tn i s'.heap/\(∀b∈fp,H' b=none)/\H' D=none/\s'.heap.get? D=some { cls:=.type "list",data:=.seq us.toArray k }/\Vals vs us/\vs.length<=sizeLine/\W i n σ' vs H') ?_ m0
   ⟨0,σ,vs,us,k,H2,I2.unpinned,st2,λb hb=>(f2 b hb).1,(I2.pin _ memD).2.1,(I2.pin _ memD).1,rv,z,w0⟩
  rintro n s3 ⟨i,σ3,vs3,us3,k3,H3,I3,st3,fr3,fD3,e3,rv3,z3,w3⟩;rcases turn i n σ3 vs3 H3 w3 with⟨stop,qn⟩ |⟨go,zl,N2,hN,step⟩
  ·refine thn (T.done X rfl rfl rfl hcalm i (pins++pD us3 k3) s3 σ3 H3 _ (pinD I3 fD3 e3) (stat fr3) st3 stop) λr s4 ⟨hr,I4⟩=>?_
   subst hr;exact⟨rfl,σ3,vs3,us3,k3,H3,I4.unpinned,fD3,(I4.pin _ memD).1,rv3,z3,qn⟩
  ·refine thn (T.item X rfl rfl rfl hcalm i (pins++pD us3 k3) s3 σ3 H3 _ (pinD I3 fD3 e3) (stat fr3) st3 go) λr s4 ⟨u,hr,h4⟩=>?_
   subst hr;refine thn h4 λ_ s5 ⟨x,H5,I5,r5,y5,st5,fr5⟩=>?_
   have I5':=I5.pinned (stat fr5) (T.obj _ _ st5);have hgg:=hg _ s5 σ3 H5 x u _ I5' r5 (step x H5 y5);rw[hxe]at hgg;refine thn hgg λ_ s6 ⟨σ6,H6,I6,q6⟩=>?_
   have hee:=he _ s6 σ6 H6 _ I6 q6;rw[hxe]at hee;refine thn hee λy s8 ⟨yv,H8,I8,r8,q8⟩=>?_
   obtain⟨m',hm,w8⟩:=hN _ _ _ q8;have e8:=I8.unpinned.pin _ memD;have pb:∀b∈fp,∀o,s5.heap.get? b=some o->s8.heap.get? b=some o/\H8 b=none:=λb hb o e=>by
    have:=I8.pin (b,o) (xAb _ (xAb _ (zbb hb e)));exact⟨this.1,this.2.1⟩
   refine call_meets F.slot_list_append ⟨_,e8.1,rfl⟩ F.entry_list_append (F.args_list_append_2 _ _) (PySem.list_append D us3.toArray k3 y (by rw[xA5,<-rv3.length];exact z3)) ⟨e8.1,?_⟩;have q:=PySem.IsL.update e8.1 (·.push y);have J0:Inv X pins σ6 H8 s8:=I8.unpinned.unpinned;refine⟨m',hm,i+1,σ6,vs3++[yv],us3++[y],_,H8,J0.turned (it:=D) (t':=s8.toks) (λb o hb hu=>(xAK s8.heap _ (Ne.symm hb)).trans hu) e8.2.1 hDC (.inr hDge) hDcell hDp,?_,?_,e8.2.1,by simpa using q,rv3.append (.cons r8 .nil),by simp;omega,w8⟩
   ·exact T.keep _ _ _ st5 λb hb o e=>(xAK s8.heap _ (λzz=>hDfp b hb zz.symm)).trans (pb b hb o e).1
   ·intro b hb;obtain⟨o,e,_⟩:=T.obj _ _ st5 b hb;exact(pb b hb o e).2
 exact zbZ loop (T.self X.A 0 _ _ _ st2 loop)
theorem yfO{elt target iter t2 i2:Expr}{scope:Scope}{pos:Pos}{tg cp:List Str}{ci:List Nat}{wi wi2:TI}{g g2:TG}{te:TE}
  {pins:List (Addr×Obj)} {s:Shared} {σ:St} {H:Hp} {Q:VK} {cl:List (Str×Addr)}
  (S:CSc X.N X.env.scope tg cp ci scope) (hcalm:X.calm=true) (hi:PI X target iter wi)
  (hcl1:∀n c,cl.lookup n=some c->X.env.cells.lookup n=some c) (hcl2:∀n,(n,NameKind.free)∈scope.names->∃c,cl.lookup n=some c)
  (hg:∀C fp s H,PG (cxC X (tg++cp) scope cl C fp s H) target g) (hi2:∀C fp s H,PI (cxC X (tg++cp) scope cl C fp s H) t2 i2 wi2) (hg2:∀C fp s H,PG (cxC X (tg++cp) scope cl C fp s H) t2 g2) (he:∀C fp s H,PE (cxC X (tg++cp) scope cl C fp s H) elt te)
  (hs2:∀env x,foldedSetIterable i2 env x=pure x) (I:Inv X pins σ H s) (h:yg5 wi tg.length ci g wi2 g2 te σ H Q) :
  wpAny (model X.prog X.w) X.A (eval iter X.env) (λx s₁=>wpAny (model X.prog X.w) X.A (pyIter x) (λit s₂=>wpAny (model X.prog X.w) X.A (newList []) (λacc s₃=>
   wpAny (model X.prog X.w) X.A (newFunctionEnv scope X.env.globals cl [] X.env.qual none .none (some X.env)) (λcenv s₄=>
    codeAny (model X.prog X.w) X.A (.compStart (.ListComp elt [⟨target,iter,[],0⟩,⟨t2,i2,[],0⟩] scope pos) 0 it acc { cenv with scope:=relabel scope X.env })
     (λr s'=>∃D vs H',acc = .ref D/\r = .ok .next/\Inv X pins σ (upd H' D (.lst vs)) s'/\H' D=none/\Gone X pins (upd H' D (.lst vs)) s' cenv.locals/\∀D',H' D'=none->Q (.ref D') (upd H' D' (.lst vs))) s₄) X.xe s₃) X.xe s₂) X.xe s₁) X.xe s:=by
 refine thn (hi pins s σ H _ I h) λv s1 h1=>thn h1 λitv s2 h2=>?_
 obtain⟨it,fp,tn,J,H2,e,I2,T,st2,f2,W,⟨m0,w0⟩,turn⟩:=h2;subst e;refine xAs (wpAny_newFunctionEnv S.nocell (by intro y hy;simp at hy) (λh₁ hns₁ hsb₁=>?_) S.kind);dsimp only at hns₁ hsb₁ ⊢;generalize hHL:s2.heap.push { cls:=.type "list",dict:=none,data:=.seq ([]:List Value).toArray }=HL at hns₁ hsb₁ ⊢;have hC:HL.objs.size=s2.heap.objs.size+1:=by rw[<-hHL,xB4]
 generalize hD:s2.heap.objs.size=D at hC ⊢;generalize hCC:HL.objs.size=C at hns₁ hsb₁ hC ⊢;have hDC:D≠C:=by omega
 have old:∀b o,s2.heap.get? b=some o->h₁.get? b=some o:=λb o e=>by
  have lt:s2.heap.objs.size>=Nat.succ b:=xAc e;refine hsb₁.extBut b o (show @Ne Nat b C by omega) (xA2 _ (hHL ▸ xA2 _ e))
 have hD1:h₁.get? D=some { cls:=.type "list",data:=.seq ([]:List Value).toArray 0 }:=by
  refine hsb₁.extBut D _ hDC (xA2 _ ?_);rw[<-hHL,<-hD];exact xA6 _ rfl
 have fD:H2 D=none:=I2.hok.fresh ();have fC:H2 C=none:=I2.hok.fresh ()
 let X':Cx:=cxC X (tg++cp) scope cl C fp s2 H2
 have ok':X'.Ok:=by
  refine⟨I2.ok.mod,?_,I2.ok.glob,I2.ok.blt,?_,?_,?_,?_,I2.ok.hd,I2.ok.frames,.inl rfl,?_,I2.bs,xAM I2.ok.bsz I2.sz,?_,?_,I2.stack,I2.stkFree⟩
  ·exact S.kind
  ·show s2.heap.objs.size<=C;omega
  ·intro x y c hx hy;exact I2.ok.inj x y c (hcl1 x c hx) (hcl1 y c hy)
  ·intro x hx;have hx':(relabel scope X.env).names.lookup x=some .cell\/(relabel scope X.env).names.lookup x=some .free:=hx;have q:scope.names.lookup x=some .free\/scope.names.lookup x=some .cell:=by
    rcases hx' with z|z
    ·exact zaN z (.inl rfl)
    ·exact zaN z (.inr rfl)
   rcases q with q|q
   ·exact hcl2 x (yaQ q)
   ·exact absurd rfl (S.nocell _ (yaQ q))
  ·intro x c hx;cases hx
  ·intro b hb;obtain⟨o,eo,_⟩:=T.obj _ _ st2 b hb;have lt:s2.heap.objs.size>=Nat.succ b:=xAc eo;exact⟨by show @Ne Nat b C;omega,λx c hx=>(f2 b hb).2.2.2.2.1 x c (hcl1 x c hx)⟩
  ·intro b o e hb;rcases(f2 b hb).2.2.2.1 with z|z
   ·exact I2.ok.noex b o e z
   ·have l1:X.base.objs.size>=Nat.succ b:=xAc e;have l2:X.base.objs.size<=X.s₀.heap.objs.size:=I2.ok.bsz;have l3:X.s₀.heap.objs.size<=(b:Nat):=z;omega
  ·intro b hb hbs;rcases xAa.mp (I2.stkSub b hbs) with z|z
   ·exact(f2 b hb).2.1 z
   ·exact(f2 b hb).2.2.1 z
 have capLen:(capσ tg.length ci σ).length=X'.N.length:=by
  show(List.replicate tg.length none++ci.map λi=>(σ[i]?).join).length=(tg++cp).length;have:=congrArg List.length S.at_;simp only[xA1]at this;simp[this]
 have capLook:∀(h':Heap) (m':Str->Option Value),(∀x c o,X.env.cells.lookup x=some c->s2.heap.get? c=some o->∃sl,h'.get? c=some { o with slots:=sl })->
   ∀(i:Nat) (x:Str) (v:V),X'.N[i]?=some x->(capσ tg.length ci σ)[i]?=some (some v)->Vis X'.env.scope x->∃u,RelV v u/\Look X'.env h' m' x u:=by
  intro h' m' hcell i x v e1 e2 e3;have e1':(tg++cp)[i]?=some x:=e1;have e2':(List.replicate tg.length none++ci.map λi=>(σ[i]?).join)[i]?=some (some v):=e2;by_cases hi':i<tg.length
  ·rw[List.getElem?_append_left (by simpa using hi'),List.getElem?_replicate]at e2';split at e2' <;> cases e2'
  ·rw[List.getElem?_append_right (by simpa using hi'),xAq,xA9]at e2';rw[List.getElem?_append_right ()]at e1';cases hj:ci[i-tg.length]? with
   |none=>rw[hj]at e2';cases e2'
   |some j=>
    rw[hj]at e2';have e2'':(σ[j]?).join=some v:=xAw e2';have e4:σ[j]?=some (some v):=by
     cases q:σ[j]? with
     |none=>rw[q]at e2'';cases e2''
     |some z=>rw[q]at e2'';exact congrArg some e2''
    have e5:X.N[j]?=some x:=by
     have:=congrArg (·[i-tg.length]?) S.at_;simp only[xA9,hj,e1',Option.map_some]at this;exact xAw this
    have hx:scope.names.lookup x=some .free:=S.cap x (xBo e1');have hk:=S.free (x,.free) (yaQ hx) rfl;obtain⟨m,hn,hl⟩:=I2.loc;obtain⟨u,r,l⟩:=hl j x v e5 e4 (.inr hk);refine⟨u,r,.inr ⟨?_,?_⟩⟩
    ·exact zbP hx
    ·rcases l with⟨k1,_⟩ |⟨_,c,k2,k3⟩
     ·have k1':X.env.scope.names.lookup x=some .local:=k1;rcases hk with z|z <;> (rw[z]at k1';cases k1')
     ·obtain⟨c',hc'⟩:=hcl2 x (yaQ hx);have:=hcl1 x c' hc';rw[k2]at this;cases this;obtain⟨o,ho,hd⟩:=k3;obtain⟨sl,q⟩:=hcell x c o k2 ho;exact⟨c,hc',_,q,hd⟩
 have I':∀tk,Inv X' [] (capσ tg.length ci σ) H2 { s2 with heap:=h₁,toks:=tk }:=λtk=>by
  refine⟨ok',rfl,I2.bare,Un.kept old,⟨_,hns₁,capLook _ _ λx c o _ e=>⟨o.slots,old c o e⟩⟩,λx c hx=>?_,fC,λx c hx=>I2.freeC x c (hcl1 x c hx),λp hp=>absurd (show p∈([]:List (Addr×Obj)) from hp) (by simp),I2.hok.kept old,?_⟩
  ·obtain⟨v,o,ho,hd⟩:=I2.cell x c (hcl1 x c hx);exact⟨v,o,old c o ho,hd⟩
  ·exact capLen
 have recap:∀ {pl pl':List (Addr×Obj)} {σ':St} {H':Hp} {s':Shared},Inv X' (pl++pl') σ' H' s'->Inv X' pl (capσ tg.length ci σ) H' s':=λ{pl pl' σ' H' s'} J=>by
  obtain⟨m,hn,_⟩:=J.loc;have u:Un (frs X.stack) fp H2 H' s2.heap s'.heap:=J.base;exact⟨J.ok,J.os,J.bare,J.base,⟨m,hn,capLook _ _ λx c o hx e=>u.any e (I2.freeC x c hx) λhb=>(f2 c hb).2.2.2.2.1 x c hx rfl⟩,J.cell,J.free,J.freeC,
   λp hp=>(xAB.mp hp).elim (λz=>J.pin p (xAG _ z)) (λz=>J.pin p (xAb _ (xAG _ z))),J.hok,capLen⟩
 have stat:∀ {H':Hp},(∀b∈fp,H' b=none)->∀b∈fp,FpOk X' [] H' b:=λhn b hb=>by
  obtain⟨o,eo,_⟩:=T.obj _ _ st2 b hb;have lt:s2.heap.objs.size>=Nat.succ b:=xAc eo;exact⟨hn b hb,by show @Ne Nat b C;omega,ok'.exfs b hb,.inl hb,(ok'.exf b hb).2,λp hp=>absurd (show p∈([]:List (Addr×Obj)) from hp) (by simp)⟩
 have hDfp:D∉fp:=λhb=>by obtain⟨o,eo,_⟩:=T.obj _ _ st2 D hb;have lt:s2.heap.objs.size>=Nat.succ D:=xAc eo;omega
 have hDcell:∀x c,X'.env.cells.lookup x=some c->c≠D:=λx c hx=>by
  obtain⟨v,o,ho,hd⟩:=I2.cell x c (hcl1 x c hx);have lt:s2.heap.objs.size>=Nat.succ c:=xAc ho;intro z;have z':@Eq Nat c D:=z;omega
 have hDfs:D∉X'.fs:=λhb=>by
  have:D∈X.env.locals::X.fs:=I2.stkSub D hb;rcases xAa.mp this with z|z
  ·have l1:s2.heap.objs.size>=Nat.succ X.env.locals:=I2.lt;have z':@Eq Nat D X.env.locals:=z;omega
  ·exact I2.nofs (show s2.heap.objs.size<=D by omega) z
 have fin:∀ {pl:List (Addr×Obj)} {σ':St} {H':Hp} {s':Shared} {vs:List V} {us:List Value} {k:Nat},Inv X' pl σ' H' s'->H' D=none->s'.heap.get? D=some { cls:=.type "list",data:=.seq us.toArray k }->Vals vs us->vs.length<=sizeLine->
   (∀D',H' D'=none->Q (.ref D') (upd H' D' (.lst vs)))->
   ∃D' vs H',Value.ref D = .ref D'/\(Except.ok Flow.next:Result) = .ok .next/\Inv X pins σ (upd H' D' (.lst vs)) s'/\H' D'=none/\Gone X pins (upd H' D' (.lst vs)) s' C/\∀D',H' D'=none->Q (.ref D') (upd H' D' (.lst vs)):=by
  intro pl σ' H' s' vs us k J f e r z q;have u:Un (frs X.stack) fp H2 H' s2.heap s'.heap:=J.base;have lt:∀ {b:Addr} {o:Obj},s2.heap.get? b=some o->b≠D:=λ{b o} eb zb=>by
   have l1:s2.heap.objs.size>=Nat.succ b:=xAc eb;have l2:@Eq Nat b D:=zb;omega
  have u2:Un (frs X.stack) fp H2 (upd H' D (.lst vs)) s2.heap s'.heap :=
   ⟨u.keep,u.slot,λb o eb n hx=>by rw[zah (lt eb)];exact u.free b o eb n hx,u.there,
    λb xs eb=>by rw[zah (zaf eb fD)];exact u.tups b xs eb,λb o uu eb=>by rw[zah (zaf eb fD)];exact u.frzs b o uu eb,λb ps eb=>by rw[zah (zaf eb fD)];exact u.tbls b ps eb⟩
  have hok2:HOk X.prog X.w (upd H' D (.lst vs)) s'.heap:=λb o eb=>by
   by_cases hb:b=D
   ·subst hb;rw[yab]at eb;cases eb;exact⟨z,us,k,r,e⟩
   ·rw[zah hb]at eb;refine(J.hok b o eb).stay (λ_ _ _ q=>q) (λc hc=>?_) λc xs hc=>?_
    ·rw[zah (λzz=>by rw[zz,f]at hc;cases hc)];exact hc
    ·rw[zah (λzz=>by rw[zz,f]at hc;cases hc)];exact hc
  refine⟨D,vs,H',rfl,rfl,I2.call' (ch:=fp) J.os u2 hok2 J.bare ?_,f,⟨?_,?_,?_,?_,?_,?_,?_⟩,q⟩
  ·intro b hb;obtain⟨_,a2,_,a4,a5,a6⟩:=f2 b hb;exact⟨a4,a2,a5,a6⟩
  ·obtain⟨m,hn,_⟩:=J.loc;exact⟨m,hn⟩
  ·rw[zah (Ne.symm hDC)];exact J.free
  ·have l1:s2.heap.objs.size>=Nat.succ X.env.locals:=I2.lt;intro zz;have zz':@Eq Nat C X.env.locals:=zz;omega
  ·have l1:X.s₀.heap.objs.size<=s2.heap.objs.size:=I2.sz;show X.s₀.heap.objs.size<=C;omega
  ·intro x c hx zz;obtain⟨v,o,ho,hd⟩:=I2.cell x c hx;have l1:s2.heap.objs.size>=Nat.succ c:=xAc ho;have zz':@Eq Nat c C:=zz;omega
  ·intro p hp zz;have l1:s2.heap.objs.size>=Nat.succ p.1:=xAc (I2.pin p hp).1;have zz':@Eq Nat p.1 C:=zz;omega
  ·exact I2.nofs (show s2.heap.objs.size<=C by omega)
 have loop:∀tk,codeAny (model X.prog X.w) X.A (.compLoop (.ListComp elt [⟨target,iter,[],0⟩,⟨t2,i2,[],0⟩] scope pos) 0 (.ref it) (.ref D) (compEnvC scope cl C X.env))
   (λr s'=>∃D' vs H',Value.ref D = .ref D'/\r = .ok .next/\Inv X pins σ (upd H' D' (.lst vs)) s'/\H' D'=none/\Gone X pins (upd H' D' (.lst vs)) s' C/\∀D',H' D'=none->Q (.ref D') (upd H' D' (.lst vs))) { s2 with heap:=h₁,toks:=tk }:=by
  intro tk;refine yeL (λn s'=>∃i vs us k H',Inv X' [] (capσ tg.length ci σ) H' s'/\tn i s'.heap/\(∀b∈fp,H' b=none)/\H' D=none/\s'.heap.get? D=some { cls:=.type "list",data:=.seq us.toArray k }/\Vals vs us/\vs.length<=sizeLine/\W i n vs H') ?_ m0
   ⟨0,[],[],0,H2,I' tk,T.keep _ _ _ st2 (λb hb o e=>old b o e),λb hb=>(f2 b hb).1,fD,hD1,.nil,xB1 _,w0⟩ (hs2 _)
  rintro n s3 ⟨i,vs,us,k,H3,I3,st3,fr3,fD3,hD3,rv3,z3,w3⟩
  let pD:List (Addr×Obj):=[(D,{ cls:=.type "list",data:=.seq us.toArray k })]
  have pinD:∀ {σ':St} {H':Hp} {s':Shared},Inv X' [] σ' H' s'->H' D=none->s'.heap.get? D=some { cls:=.type "list",data:=.seq us.toArray k }->Inv X' pD σ' H' s':=λ{σ' H' s'} J f e=>
   J.pins_of λp hp=>by
    have:p=(D,{ cls:=.type "list",data:=.seq us.toArray k }):=by simpa[pD]using hp
    subst this;exact⟨e,f,hDC,hDfs,λv z=>by cases z⟩
  have statD:∀ {H':Hp},(∀b∈fp,H' b=none)->∀b∈fp,FpOk X' pD H' b:=λhn b hb=>by
   obtain⟨a1,a2,a3,a4,a5,_⟩:=stat hn b hb;refine⟨a1,a2,a3,a4,a5,λp hp=>?_⟩;have:p=(D,{ cls:=.type "list",data:=.seq us.toArray k }):=by
    have hp':p∈([]:List (Addr×Obj))++pD:=hp
    simpa[pD]using hp'
   subst this
   exactλz=>hDfp (by rw[show D=b from z];exact hb)
  rcases turn i n vs H3 w3 with⟨stop,qn⟩ |⟨go,N,hN,step⟩
  ·refine thn (T.done X' rfl rfl rfl hcalm i pD s3 _ H3 _ (pinD I3 fD3 hD3) (statD fr3) st3 stop) λr s4 ⟨hr,I4⟩=>?_
   subst hr;have eD:s4.heap.get? D=some { cls:=.type "list",data:=.seq us.toArray k }:=(I4.pin (D,_) (by simp[pD])).1;exact fin I4 fD3 eD rv3 z3 qn
  ·refine thn (T.item X' rfl rfl rfl hcalm i pD s3 _ H3 _ (pinD I3 fD3 hD3) (statD fr3) st3 go) λr s4 ⟨u,hr,h4⟩=>?_
   subst hr;refine thn h4 λ_ s5 ⟨x,H5,I5,r5,y5,st5,fr5⟩=>?_
   have I5':=I5.pinned (statD fr5) (T.obj _ _ st5);refine thn (hg C fp s2 H2 _ s5 _ H5 x u _ I5' r5 (step x H5 y5)) λ_ s6 ⟨σ6,H6,I6,q6⟩=>?_
   have e6:=I6.pin (D,_) (xAb _ (xAG _ (by simp[pD] <;> rfl)));have I6':Inv X' (yct fp s5.heap) σ6 H6 s6:=I6.pins_of λp hp=>I6.pin p (xAb _ (xAb _ hp))
   refine thn (zh8 (X:=X') rfl hcalm (hi2 C fp s2 H2) (hg2 C fp s2 H2) (he C fp s2 H2) hDC hDfs hDcell (show s2.heap.objs.size<=D by omega) (λp hp=>?_) I6' e6.2.1 e6.1 rv3 z3 q6) λv s7 h7=>thn h7 λitv s8 h8=>codeAny_mono h8 λr s9 ⟨hr,σ',vs',us',k',H',J,f',e',rv',z',n'⟩=>?_
   ·have hp':p∈([]:List (Addr×Obj))++yct fp s5.heap:=hp;obtain⟨hb,_⟩:=ydZ (by simpa using hp')
    exactλzz=>hDfp (by rw[<-zz];exact hb)
   obtain⟨m',hm,w'⟩:=hN _ _ n';have pb:∀b∈fp,∀o,s5.heap.get? b=some o->s9.heap.get? b=some o/\H' b=none:=λb hb o e=>by
    have:=J.pin (b,o) (xAb _ (zbb hb e));exact⟨this.1,this.2.1⟩
   refine⟨hr,m',hm,i+1,vs',us',k',H',recap (pl:=[]) (pl':=yct fp s5.heap) J,T.keep _ _ _ st5 λb hb o e=>(pb b hb o e).1,λb hb=>?_,f',e',rv',z',w'⟩;obtain⟨o,e,_⟩:=T.obj _ _ st5 b hb;exact(pb b hb o e).2
 exact codeAny_compStart_list (loop _) (T.self X.A 0 _ _ _ (T.keep _ _ _ st2 (λb hb o e=>old b o e)) (loop _))
theorem zgV{i:Nat}{y:Str}{py:Pos}{elt target iter t2 i2:Expr}{scope:Scope}{pos spos:Pos}{tg cp:List Str}{ci:List Nat}{wi wi2:TI}{g g2:TG}{te:TE}
  (hN:X.N.Nodup) (hi':X.N[i]?=some y) (hy:Loc X.env.scope y)
  (S:CSc X.N X.env.scope tg cp ci scope) (hcalm:X.calm=true) (hi:PI X target iter wi)
  (hg:∀cl C fp s H,PG (cxC X (tg++cp) scope cl C fp s H) target g) (hi2:∀cl C fp s H,PI (cxC X (tg++cp) scope cl C fp s H) t2 i2 wi2) (hg2:∀cl C fp s H,PG (cxC X (tg++cp) scope cl C fp s H) t2 g2) (he:∀cl C fp s H,PE (cxC X (tg++cp) scope cl C fp s H) elt te)
  (hsw:swapsWith (.ListComp elt [⟨target,iter,[],0⟩,⟨t2,i2,[],0⟩] scope pos) (some (.Name y py)) spos.line X.env=pure true:=by rfl)
  (hs:∀x,foldedSetIterable iter X.env x=pure x:=by intro _;rfl) (hs2:∀env x,foldedSetIterable i2 env x=pure x:=by intro _ _;rfl) (hf:X.fn y=true\/X.env.scope.names.lookup y=some .local:=by first|exact .inl rfl|exact .inr rfl|assumption) :
  PS X (.Assign [.Name y py] (.ListComp elt [⟨target,iter,[],0⟩,⟨t2,i2,[],0⟩] scope pos) spos) (tAsg (yg5 wi tg.length ci g wi2 g2 te) (yaw i)):=by
 intro pins s σ H D I h;obtain⟨cl,hclos,h1,h2⟩:=ybd (scope:=scope) (env:=X.env) λx hx hf=>I.ok.has x.1 (S.free x hx hf)
 rw[exec_Assign_Name_used _ _ _ _ hsw];refine xA0 (wpAny_standAt (xA0 ?_));show wpAny _ X.A (do let _ <-comprehension (.ListComp elt [⟨target,iter,[],0⟩,⟨t2,i2,[],0⟩] scope pos) scope X.env _ (newList []) false (eval iter X.env) (some (assign (.Name y py) X.env))) _ _ s;refine xA0 (xAQ (wpAny_comprehension_free (use:=some (assign (.Name y py) X.env)) (Q:=λ_ s'=>SP X pins D .next s') rfl hs hclos S.kind S.loc
  (thn (yfO S hcalm hi h1 h2 (hg cl) (hi2 cl) (hg2 cl) (he cl) hs2 I h) λx s1 q1=>thn q1 λit s2 q2=>thn q2 λacc s3 q3=>thn q3 λcenv s4 q4=>codeAny_mono q4 λr s' q=>?_)) (λ_ s' hq=>xA3 (xA3 hq)) λ_ _ e=>e)
 obtain⟨D',vs,H',e1,e2,I',f,G,q⟩:=q;subst e1 e2;show wpAny _ X.A (assign (.Name y py) X.env (.ref D')) _ _ _;obtain⟨m,o,es,ep,ho,hd,hk⟩:=G.ns;have pin:Inv X ((cenv.locals,o)::pins) σ (upd H' D' (.lst vs)) s':=I'.pins_of λp hp=>by
  rcases xAa.mp hp with z|z
  ·subst z;exact⟨ho,G.free,G.ne,G.nofs,λv z=>by rw[hd]at z;cases z⟩
  ·exact I'.pin p (xAb _ z)
 refine wpAny_assign_Name (ya1 (v:=V.ref D') pin hN hi' hy (show RelV (.ref D') (.ref D') from rfl) (λs2 I2=>?_) hf);have I3:Inv X pins (σ.set i (some (.ref D'))) (upd H' D' (.lst vs)) s2:=I2.pins_of λp hp=>I2.pin p (xAb _ (xAd _ hp))
 have e2:=I2.pin (cenv.locals,o) (xAb _ xAf);have G2:Gone X pins (upd H' D' (.lst vs)) s2 cenv.locals:=⟨⟨m,o,es,ep,e2.1,hd,hk⟩,G.free,G.ne,G.ab,G.cells,G.pins,G.nofs⟩
 exact⟨m,⟨o,es,ep,e2.1,hd,hk⟩,λh' hsb=>⟨_,_,G2.turned I3 hsb,q D' f⟩⟩
end
theorem yf1{J:It}{n:Nat}{G:Hp->Prop}{y:Nat->V->Hp->Hp->Prop}(S:Seqs J n G y){σc:St}{g:TG}{In:List V->(List V->Hp->Prop)->St->Hp->Prop}{H:Hp}{Fn:List V->Hp->Prop}(Pv:Nat->List V->Hp->Prop)(h0:Pv 0 [] H)(hl:∀i acc H,i<=n->Pv i acc H->G H)
  (hs:∀i acc x H H',i<n->Pv i acc H->y i x H H'->g x σc H' λσ2 H2=>In acc (Pv (i+1)) σ2 H2)
  (hd:∀acc H,Pv n acc H->Fn acc H) :
  ∃W:ygt,(∃m,W 0 m [] H)/\∀i m acc H,W i m acc H->
   (J.stop i H/\Fn acc H)\/
   (J.go i H/\∃N:List V->Hp->Prop,(∀acc' H',N acc' H'->∃m',m'<m/\W (i+1) m' acc' H')/\∀x H',J.yld i H x H'->g x σc H' λσ2 H2=>In acc N σ2 H2):=by
 refine⟨λi m acc H=>m=n-i/\i<=n/\Pv i acc H,⟨n,by simp,xB1 _,h0⟩,?_⟩;rintro i m acc H ⟨rfl,hi,p⟩;by_cases hlt:i<n
 ·exact .inr ⟨S.go i H hlt (hl i acc H hi p),Pv (i+1),λacc' H' p'=>⟨n-(i+1),(),rfl,hlt,p'⟩,λx H' q=>hs i acc x H H' hlt p (S.yld i H x H' hlt (hl i acc H hi p) q)⟩
 ·have e:i=n:=by omega
  subst e;exact .inl ⟨S.stop H (hl _ acc H hi p),hd acc H p⟩
theorem yia{J:It}{n:Nat}{G:Hp->Prop}{y:Nat->V->Hp->Hp->Prop}(S:Seqs J n G y){g:TG}{te:TE}{σ:St}{acc:List V}{H:Hp}{N:List V->Hp->Prop}(Pv:Nat->St->List V->Hp->Prop)(h0:Pv 0 σ acc H)(hl:∀i σ acc H,i<=n->Pv i σ acc H->G H)
  (hz:∀i σ acc H,i<n->Pv i σ acc H->acc.length<sizeLine)
  (hs:∀i σ acc x H H',i<n->Pv i σ acc H->y i x H H'->g x σ H' λσ2 H2=>te σ2 H2 λv H3=>Pv (i+1) σ2 (acc++[v]) H3)
  (hd:∀σ acc H,Pv n σ acc H->N acc H) :
  ∃W:Nat->Nat->St->List V->Hp->Prop,(∃m,W 0 m σ acc H)/\∀i m σ acc H,W i m σ acc H->
   (J.stop i H/\N acc H)\/
   (J.go i H/\acc.length<sizeLine/\∃N2:St->List V->Hp->Prop,(∀σ' acc' H',N2 σ' acc' H'->∃m',m'<m/\W (i+1) m' σ' acc' H')/\∀x H',J.yld i H x H'->g x σ H' λσ2 H2=>te σ2 H2 λv H3=>N2 σ2 (acc++[v]) H3):=by
 refine⟨λi m σ acc H=>m=n-i/\i<=n/\Pv i σ acc H,⟨n,by simp,xB1 _,h0⟩,?_⟩;rintro i m σ acc H ⟨rfl,hi,p⟩;by_cases hlt:i<n
 ·exact .inr ⟨S.go i H hlt (hl i σ acc H hi p),hz i σ acc H hlt p,Pv (i+1),λσ' acc' H' p'=>⟨n-(i+1),(),rfl,hlt,p'⟩,λx H' q=>hs i σ acc x H H' hlt p (S.yld i H x H' hlt (hl i σ acc H hi p) q)⟩
 ·have e:i=n:=by omega
  subst e;exact .inl ⟨S.stop H (hl _ σ acc H hi p),hd σ acc H p⟩
end L2
end
section
-- text: ExtRq
namespace L2
open PySem PySem.Spec PyProof.Rows
section
variable {X:Cx}
end
end L2
end
section
-- text: ExtRu
namespace L2
open PySem PySem.W PySem.Calls PyProof.Rows
local macro_rules | `(tactic| ac_rfl) => `(tactic| first | omega | (dsimp only; omega))
section
variable {prog:Program} {w:World} {A:Around} {E:Value->Shared->Prop} {s:Shared} {κ:SortKind}
theorem S_if{α σ:Type}{M:Model}{c:Prop}[Decidable c]{m₁ m₂:StateT σ Sem α}{Q:α->σ->Prop}{st:σ}(h₁:c->wpS M A E s m₁ Q st)(h₂:¬ c->wpS M A E s m₂ Q st):wpS M A E s (if c then m₁ else m₂) Q st:=by
 split
 ·exact h₁ ‹_›
 ·exact h₂ ‹_›
theorem zfp{β σ:Type}{M:Model}{a b:Nat}{f:Nat->β->StateT σ Sem (ForInStep β)}(I:Nat->β->σ->Prop)(R:β->σ->Prop){Q:β->σ->Prop}{c:β}{st:σ}(h:I a c st)(hend:∀c st,I (max a b) c st->R c st)(hq:∀c st,R c st->Q c st)
  (hstep:∀i c st,a<=i->i<b->I i c st->wpS M A E s (f i c) (λr st'=>match r with | .done c'=>R c' st' | .yield c'=>I (i+1) c' st') st):wpS M A E s (forIn [a:b] c f) Q st:=wpS_mono (wpS_forRange (Q:=R) I hstep hend h) hq
noncomputable def Answ(prog:Program)(w:World)(A:Around)(s:Shared)(κ:SortKind)(g:Keyed->Prop):Prop:=∀(x y:Keyed) (C:Bool->Shared->Prop),g x->g y->(∀b,C b s)->wpAny (model prog w) A (keyLt' κ x.1 y.1) C (λ_ _=>False) s
variable {g:Keyed->Prop} (hA:Answ prog w A s κ g)
include hA
theorem S_lt{st:SortSt}{x y:Keyed}{Q:Option Bool->SortSt->Prop}(hk:kindOf st=κ)(gx:g x)(gy:g y)(h:∀b,Q (some b) st):wpS (model prog w) A E s (lt' x y) Q st:=by
 rw[lt'_eq];refine xAZ (wpS_get ?_);rw[hk];refine xAZ (wpS_lift (xBr (xAQ (hA x y (λb s'=>s'=s/\∃c,b=c) gx gy λb=>⟨rfl,b,rfl⟩) (λb s' hb=>?_) λ_ _ e=>e.elim)));obtain⟨rfl,_⟩:=hb;exact⟨rfl,xBq (h b)⟩
omit hA in
theorem yg8{st:SortSt}{a:Array Keyed}{i:Nat}{Q:Keyed->SortSt->Prop}(hi:i<a.size)(h:Q a[i] st):wpS (model prog w) A E s (elem' a i) Q st:=by
 rw[elem'_eq,xB5 hi];exact xBq h
theorem yik{st:SortSt}{i j:Nat}{Q:Option Bool->SortSt->Prop}(hk:kindOf st=κ)(hi:i<(arrOf st).size)(hj:j<(arrOf st).size)(gs:∀x∈(arrOf st).toList,g x)(h:∀b,Q (some b) st):wpS (model prog w) A E s (ltAt' i j) Q st:=by
 rw[ltAt'_eq];refine xAZ (wpS_get ?_);refine xAZ (yg8 hi (xAZ (yg8 hj ?_)));exact S_lt hA hk (gs _ (by simp)) (gs _ (by simp)) h
end
theorem nbeq{x y:Nat}(h:¬ (x==y)=true):x≠y:=λe=>h (by rw[e];exact beq_self_eq_true _)
section
variable {a b o:Array Keyed} {i j:Nat} {X:List Keyed}
end
section
variable {prog:Program} {w:World} {A:Around} {E:Value->Shared->Prop} {s:Shared} {κ:SortKind}
variable {g:Keyed->Prop} (hA:Answ prog w A s κ g)
include hA
end
section
variable {a b o:Array Keyed} {i j:Nat} {X:List Keyed}
end
section
variable {prog:Program} {w:World} {A:Around} {E:Value->Shared->Prop} {s:Shared} {κ:SortKind}
variable {g:Keyed->Prop} (hA:Answ prog w A s κ g)
include hA
end
end L2
end
section
-- text: ExtRv
namespace L2
open PySem PySem.W PySem.Calls PyProof.Rows
local macro_rules | `(tactic| ac_rfl) => `(tactic| first | omega | (dsimp only; omega))
noncomputable def Pm(st st':SortSt):Prop:=kindOf st'=kindOf st/\pendingOf st'=pendingOf st/\failedOf st'=failedOf st/\(arrOf st').toList.Perm (arrOf st).toList
theorem Pm.rfl{st:SortSt}:Pm st st:=⟨Eq.refl _,Eq.refl _,Eq.refl _,.refl _⟩
theorem Pm.trans{a b c:SortSt}(x:Pm a b)(y:Pm b c):Pm a c:=⟨y.1.trans x.1,y.2.1.trans x.2.1,y.2.2.1.trans x.2.2.1,y.2.2.2.trans x.2.2.2⟩
theorem Pm.size{a b:SortSt}(x:Pm a b):(arrOf b).size=(arrOf a).size:=by
 have:=x.2.2.2.length_eq
 rwa [xAl,xAl]at this
section
variable {prog:Program} {w:World} {A:Around} {E:Value->Shared->Prop} {s:Shared} {κ:SortKind}
theorem yfE{st:SortSt}{i j:Nat}{Q:Unit->SortSt->Prop}(h:∀st',Pm st st'->Q Unit.unit st'):wpS (model prog w) A E s (reverseSlice' i j) Q st:=by
 rw[reverseSlice'_eq];exact wpS_modify (h _ ⟨rfl,rfl,rfl,Array.perm_iff_toList_perm.mp (mirror_perm _ _ _ _)⟩)
theorem zh9{st:SortSt}{i j:Nat}{Q:Unit->SortSt->Prop}(h:∀st',Pm st st'->Q Unit.unit st'):wpS (model prog w) A E s (moveDown' i j) Q st:=by
 rw[moveDown'_eq];exact wpS_modify (h _ ⟨rfl,rfl,rfl,Array.perm_iff_toList_perm.mp (bubble_perm _ _ _)⟩)
variable {g:Keyed->Prop} (hA:Answ prog w A s κ g)
include hA
theorem yc6{st st':SortSt}{i j:Nat}{Q:Option Bool->SortSt->Prop}(hk:kindOf st=κ)(gs:∀x∈(arrOf st).toList,g x)(e:Pm st st')(hi:i<(arrOf st).size)(hj:j<(arrOf st).size)(h:∀b,Q (some b) st'):wpS (model prog w) A E s (ltAt' i j) Q st' :=
 yik hA (e.1.trans hk) (by rw[e.size];exact hi) (by rw[e.size];exact hj) (λx hx=>gs x (e.2.2.2.mem_iff.mp hx)) h
theorem zhp{st st':SortSt}{lo nrem n:Nat}{Q:Option (Option Nat)×Nat->SortSt->Prop}(hk:kindOf st=κ)(gs:∀x∈(arrOf st).toList,g x)(hz:lo+nrem<=(arrOf st).size)(e:Pm st st')(h1:1<=n)(h2:n<=nrem)(h:∀m,1<=m->m<=nrem->Q (none,m) st'):wpS (model prog w) A E s (forIn [n:nrem] ((none,n):Option (Option Nat)×Nat) λ_ z=>ltAt' (lo+z.2) (lo+z.2-1) >>= λr=>match r with
   |some c=>if c=true then pure (ForInStep.done (none,z.2)) else pure (ForInStep.yield (none,z.2+1))
   |_=>pure (ForInStep.done (some none,z.2))) Q st':=by
 refine zfp (λi z u=>u=st'/\z.1=none/\1<=z.2/\z.2<=i) (λz u=>u=st'/\z.1=none/\1<=z.2/\z.2<=nrem) ⟨rfl,rfl,h1,xA4 _⟩ ?_ ?_ ?_
 ·rintro⟨r,m⟩ u ⟨h1,h2,h3,h4⟩;exact⟨h1,h2,h3,()⟩
 ·rintro⟨r,m⟩ u ⟨rfl,h2,h3,h4⟩;dsimp only at h2;subst h2;exact h m h3 h4
 ·rintro i ⟨r,m⟩ u _ _ ⟨rfl,h2,h3,h4⟩;dsimp only at h2 h3 h4;refine xAZ (yc6 hA hk gs e (by ac_rfl) (by ac_rfl) λc=>?_);cases c
  ·exact xBq ⟨rfl,rfl,(by ac_rfl),(by ac_rfl)⟩
  ·exact xBq ⟨rfl,rfl,h3,(by ac_rfl)⟩
theorem zhk{st:SortSt}{lo nrem:Nat}{Q:Option Nat->SortSt->Prop}(hk:kindOf st=κ)(gs:∀x∈(arrOf st).toList,g x)(hz:lo+nrem<=(arrOf st).size)(h1:1<=nrem)(h:∀n st',1<=n->n<=nrem->Pm st st'->Q (some n) st'):wpS (model prog w) A E s (countRun' lo nrem) Q st:=by
 refine xAZ (zhp hA hk gs hz Pm.rfl (xA4 _) h1 λn n1 n2=>?_);refine S_if (λ_=>xBq (h _ _ n1 n2 Pm.rfl)) λc1=>?_
 have c1':=nbeq c1;dsimp only at c1';refine S_if (λ_=>xAZ (yc6 hA hk gs Pm.rfl (by ac_rfl) (by ac_rfl) λc=>?_)) λ_=>?_
 cases c
 rotate_left
 exact xBq (h _ _ n1 n2 Pm.rfl);have e:Pm st st:=Pm.rfl
 rotate_left
 refine xAZ (yfE λst1 e=>?_)
 all_goals
  refine xAZ (wpS_lift (xBc ⟨rfl,?_⟩));refine xAZ (zfp (λi z u=>Pm st u/\z.1=none/\1<=z.2.1/\z.2.1<=i) (λz u=>Pm st u/\z.1=none/\1<=z.2.1/\z.2.1<=nrem) ⟨e,rfl,(by ac_rfl),xA4 _⟩ ?_ ?_ ?_)
  ·rintro⟨r,m⟩ u ⟨h1,h2,h3,h4⟩;dsimp only at h4;exact⟨h1,h2,h3,(by ac_rfl)⟩
  ·rintro⟨r,m,q⟩ u ⟨e,h2,h3,h4⟩;dsimp only at h2 h3 h4;subst h2;refine S_if (λ_=>xAZ (yfE λu1 e1=>?_)) λ_=>?_
   ·refine xAZ (yfE λu2 e2=>?_);refine xAZ (zhp hA hk gs hz ((e.trans e1).trans e2) h3 h4 λn n1 n2=>?_);exact xBq (h _ _ n1 n2 ((e.trans e1).trans e2))
   ·refine xAZ (yfE λu2 e2=>?_);refine xAZ (zhp hA hk gs hz (e.trans e2) h3 h4 λn n1 n2=>?_);exact xBq (h _ _ n1 n2 (e.trans e2))
  ·rintro i ⟨r,m,q⟩ u _ _ ⟨e,h2,h3,h4⟩;dsimp only at h2 h3 h4;refine xAZ (yc6 hA hk gs e (by ac_rfl) (by ac_rfl) λc=>?_);refine S_if (λ_=>?_) λ_=>?_
   rotate_left
   ·refine xAZ (yc6 hA hk gs e (by ac_rfl) (by ac_rfl) λc=>?_);cases c
    ·exact xBq ⟨e,rfl,(by ac_rfl),(by ac_rfl)⟩
    ·exact xBq ⟨e,rfl,h3,(by ac_rfl)⟩
   ·refine S_if (λ_=>xAZ (yfE λu1 e1=>?_)) λ_=>?_
    ·exact xBq ⟨e.trans e1,rfl,(by ac_rfl),(by ac_rfl)⟩
    ·exact xBq ⟨e,rfl,(by ac_rfl),(by ac_rfl)⟩
theorem ziE{st:SortSt}{lo n ok:Nat}{Q:Bool->SortSt->Prop}(hk:kindOf st=κ)(gs:∀x∈(arrOf st).toList,g x)(hz:lo+n<=(arrOf st).size)(h:∀st',Pm st st'->Q true st'):wpS (model prog w) A E s (binarySort' lo n ok) Q st:=by
 refine xAZ (zfp (λi z u=>Pm st u/\z.1=none) (λz u=>Pm st u/\z.1=none) ⟨Pm.rfl,rfl⟩ (λ_ _ x=>x) ?_ ?_)
 ·rintro⟨r,z⟩ u ⟨e,h2⟩;dsimp only at h2;subst h2;exact xBq (h _ e)
 ·rintro k ⟨r,z⟩ u k1 k2 ⟨e,h2⟩;refine xAZ (zfp (λi z u=>Pm st u/\z.1=none/\z.2.2<=k) (λz u=>Pm st u/\z.1=none) ⟨e,rfl,xA4 _⟩ ?_ ?_ ?_)
  ·rintro z u ⟨h1,h2,_⟩;exact⟨h1,h2⟩
  ·rintro⟨r,l,m⟩ u ⟨e,h2⟩;dsimp only at h2;subst h2;exact xAZ (zh9 λu1 e1=>xBq ⟨e.trans e1,rfl⟩)
  ·rintro i ⟨r,l,m⟩ u _ _ ⟨e,h2,h3⟩;dsimp only at h2 h3;refine S_if (λ_=>xBq ⟨e,rfl⟩) λc1=>?_
   dsimp only at c1;refine xAZ (yc6 hA hk gs e (by ac_rfl) (by ac_rfl) λc=>?_);cases c
   ·exact xBq ⟨e,rfl,h3⟩
   ·exact xBq ⟨e,rfl,(by ac_rfl)⟩
end
end L2
end
section
-- text: ExtRt
namespace L2
open PySem PySem.W PySem.Calls PyProof.Rows
section
variable {prog:Program} {w:World} {A:Around} {E:Value->Shared->Prop} {s:Shared} {κ:SortKind}
variable {g:Keyed->Prop} (hA:Answ prog w A s κ g)
include hA
noncomputable def Rn(κ:SortKind)(st0:SortSt)(b:Nat)(st:SortSt):Prop:=kindOf st=κ/\failedOf st=none/\(arrOf st).toList.Perm (arrOf st0).toList/\(pendingOf st).size<=1/\((b=0/\(pendingOf st).size=0)\/b=(arrOf st0).size)
theorem yib{st:SortSt}{Q:Unit->SortSt->Prop}(h64:(arrOf st).size<64)(hk:kindOf st=κ)(gs:∀x∈(arrOf st).toList,g x)(hf:failedOf st=none)(hp:pendingOf st = (List.toArray []))
  (h:∀st':SortSt,failedOf st'=none->(arrOf st').toList.Perm (arrOf st).toList->Q Unit.unit st'):wpS (model prog w) A E s sortRuns' Q st:=by
 refine xAZ (wpS_get ?_);refine xAZ (zfp (λ_ z u=>z.1=none/\Rn κ st z.2 u) (λz u=>z.1=none/\Rn κ st z.2 u) ⟨rfl,hk,hf,.refl _,by rw[hp];exact xB1 _,.inl ⟨rfl,by rw[hp];rfl⟩⟩ (λ_ _ x=>x) ?_ ?_)
 ·rintro⟨r,lo⟩ u ⟨e1,R⟩;dsimp only at e1;subst e1;refine xAZ (zfp (λ_ z u=>z.1=none/\Rn κ st lo u) (λz u=>z.1=none/\Rn κ st lo u) ⟨rfl,R⟩ (λ_ _ x=>x) ?_ ?_)
  ·rintro⟨r,z⟩ u ⟨e1,R1,R2,R3,R4,R5⟩;dsimp only at e1;subst e1;exact xBq (h _ R2 R3)
  ·rintro i ⟨r,z⟩ u _ _ ⟨e1,R⟩;refine xAZ (wpS_get ?_);refine S_if (λ_=>xBq ⟨rfl,R⟩) λc1=>?_
   have c2:¬ (pendingOf u).size<=1:=c1;exact absurd R.2.2.2.1 c2
 ·rintro i ⟨r,lo⟩ u _ _ ⟨e1,R1,R2,R3,R4,R5⟩;dsimp only at R4 R5;refine S_if (λ_=>xBq ⟨rfl,R1,R2,R3,R4,R5⟩) λc1=>?_
  dsimp only at c1;have c3:¬ lo>=(arrOf st).size:=c1;obtain⟨rfl,hp0⟩:lo=0/\(pendingOf u).size=0:=by
   rcases R5 with h|h
   ·exact h
   ·exact absurd (Nat.le_of_eq h.symm) c3
  have sz:(arrOf u).size=(arrOf st).size:=by
   have:=R3.length_eq
   rwa [xAl,xAl]at this
  have hmr:minRun' (arrOf st).size (arrOf st).size 0=(arrOf st).size:=by
   generalize (arrOf st).size=z at h64 c3;cases z with
   |zero=>exact absurd (xA4 _) c3
   |succ z=>rw[minRun'_succ,if_pos h64]
  refine xAZ (zhk hA R1 (λx hx=>gs x (R3.mem_iff.mp hx)) ?_ ?_ λn u1 n1 n2 e=>?_)
  ·show 0+((arrOf st).size-0)<=(arrOf u).size;omega
  ·show 1<=(arrOf st).size-0;omega
  have n3:n<=(arrOf st).size-0:=n2;have hb0:∀v:SortSt,pendingOf v=pendingOf u->(pendingOf v).back?=none:=λv hv=>by
   rw[hv,Array.back?_eq_getElem?,hp0];exact Array.getElem?_eq_none (by rw[hp0];exact xA4 _)
  have ps:∀(v:SortSt) (x:Nat×Nat×Nat),pendingOf v=pendingOf u->((pendingOf v).push x).size<=1:=λv x hv=>by rw[Array.size_push,hv,hp0];exact xA4 _
  refine S_if (λc2=>?_) λc2=>?_
  ·refine xAZ (wpS_lift (xBc ⟨rfl,?_⟩));have U3:=e.2.2.2.trans R3;refine xAZ (ziE hA (e.1.trans R1) (λx hx=>gs x (U3.mem_iff.mp hx)) ?_ λv e2=>?_)
   ·rw[e.size,sz];show 0+min ((arrOf st).size-0) _<=_;omega
   have hv:=e2.2.1.trans e.2.1;refine xAZ (wpS_get ?_);rw[hb0 v hv];refine xAZ (wpS_modify (xBq ⟨rfl,e2.1.trans (e.1.trans R1),e2.2.2.1.trans (e.2.2.1.trans R2),e2.2.2.2.trans U3,ps v _ hv,.inr ?_⟩));show 0+min ((arrOf st).size-0) (minRun' (arrOf st).size (arrOf st).size 0)=(arrOf st).size;omega
  ·have c4:¬ n<minRun' (arrOf st).size (arrOf st).size 0:=c2;refine xAZ (wpS_get ?_);rw[hb0 u1 e.2.1];refine xAZ (wpS_modify (xBq ⟨rfl,e.1.trans R1,e.2.2.1.trans R2,e.2.2.2.trans R3,ps u1 _ e.2.1,.inr ?_⟩));show 0+n=(arrOf st).size;omega
end
end L2
namespace L2
open PySem PySem.Spec PySem.W PySem.Calls PyProof.Rows
section
variable {prog:Program} {w:World} {A:Around} {E:Value->Shared->Prop} {s:Shared} {vs:List Value}
noncomputable def zbv(h h':Heap):Prop:=∀(b:Addr) (o:Obj),h.get? b=some o->h'.get? b=some o
theorem zbv.trans{a b c:Heap}(x:zbv a b)(y:zbv b c):zbv a c:=λb o e=>y b o (x b o e)
theorem zbv.push(h:Heap)(o:Obj):zbv h (h.push o):=λ_ _ e=>xA2 _ e
theorem yeP{α:Type}(vs:List α):(vs.toArray.zip vs.toArray).toList=vs.map λv=>(v,v):=by
 rw[Array.toList_zip];show vs.zip vs=_
 induction vs with
 |nil=>rfl
 |cons x l ih=>rw[List.zip_cons_cons,ih];rfl
theorem zdO{h₀:Heap}{a:Addr}{n:Nat}{P:PySem.Fin->Shared->Prop}(h64:vs.length<64)(ho:s.heap.get? a=some (seqObj "list" vs.toArray n))(hz:vs.length<=sizeLine)(k0:zbv h₀ s.heap)(ha:h₀.get? a=none)
  (ask:∀h':Heap,zbv h₀ h'->2<=vs.length->wpAny (model prog w) A (keyKind' vs.toArray) (λκ s'=>s'={ s with heap:=h' }/\∃g:Keyed->Prop,(∀v∈vs,g (v,v))/\Answ prog w A { s with heap:=h' } κ g) (λ_ _=>False) { s with heap:=h' })
  (fin:∀(es:List Value) (h':Heap) (c:Nat),zbv h₀ h'->h'.get? a=some (seqObj "list" es.toArray c)->es.Perm vs->P (.done (.ret .none)) { s with heap:=h' }) :
  wpAny (model prog w) A (Builtin.«list.sort» ⟨[.ref a],[]⟩) P E s:=by
 have hs:vs.toArray.size<=sizeLine:=by rw[xA5];exact hz
 obtain⟨c1,o1⟩:∃c,(s.heap.update a (Obj.mapSeq λ_=>((List.toArray []):Array Value))).get? a=some (seqObj "list" (List.toArray []) c):=⟨_,get?_update_seq ho λ_=>(List.toArray [])⟩
 have ku:∀(h:Heap) (f:Obj->Obj),zbv h₀ h->zbv h₀ (h.update a f):=λh f k b o e=>by
  rw[Heap.get?_update_ne _ _ _ _ (λq=>by rw[q,ha]at e;cases e)];exact k b o e
 rw[list_sort_plain];refine xA0 (listItems_at ho rfl (xA0 (listUpdate_at ho rfl ?_ hs (xB1 _))));refine xA0 (seqEpoch_at o1 rfl (xA0 (wpAny_newTuple ?_ hz)));refine xA0 (wpAny_newList (xB9 ?_) (xB1 _));obtain⟨h1,e1⟩:∃h1,h1=((s.heap.update a (Obj.mapSeq λ_=>((List.toArray []):Array Value))).push (seqObj "tuple" vs.toArray 0)).push (seqObj "list" (List.toArray []) 0):=⟨_,rfl⟩
 have k1:zbv h₀ h1:=by rw[e1];exact((ku _ _ k0).trans (zbv.push _ _)).trans (zbv.push _ _)
 have o2:h1.get? a=some (seqObj "list" (List.toArray []) c1):=by rw[e1];exact zbv.push _ _ _ _ (zbv.push _ _ _ _ o1)
 have last:∀ {out:Array Value},out.toList.Perm vs->P (.done (.ret .none)) { s with heap:=h1.update a (Obj.mapSeq λ_=>out) }:=λ{out} hp=>by
  refine fin out.toList _ _ (ku _ _ k1) (get?_update_seq o2 λ_=>out) hp
 show wpAny (model prog w) A _ P E { s with heap:=((s.heap.update a (Obj.mapSeq λ_=>((List.toArray []):Array Value))).push (seqObj "tuple" vs.toArray 0)).push (seqObj "list" (List.toArray []) 0) };rw[<-e1];have zp:∀ {st:SortSt},(arrOf st).toList.Perm ((vs.toArray.zip vs.toArray).toList)->((arrOf st).map (·.2)).toList.Perm vs:=λ{st} hp=>by
  have:=hp.map (·.2);rw[yeP,List.map_map]at this;rw[Array.toList_map];exact this.trans (by show((vs.map id).Perm vs);rw[List.map_id])
 have zs:∀ {out:Array Value},out.toList.Perm vs->out.size<=sizeLine+1:=λhp=>by
  have:=hp.length_eq;rw[xAl]at this;omega
 dsimp only;by_cases c2:vs.toArray.size<2
 ·rw[if_pos c2,if_pos c2];refine xA0 (xA3 (xA0 ?_));rw[StateT.run_pure];refine xA3 ?_;have hp:=zp (st:=SortSt.mk' general' (vs.toArray.zip vs.toArray) (List.toArray []) 7 none) (.refl _);refine xA0 (seqEpoch_at o2 rfl (xA0 (listUpdate_at o2 rfl ?_ (xB1 _) (zs hp))));simp only[bne_self_eq_false,Bool.false_eq_true,if_false];exact xA3 (last hp)
 ·rw[if_neg c2,if_neg c2];rw[xA5]at c2;refine xA0 (xAQ (ask h1 k1 ()) (λκ s' hk=>?_) λ_ _ x=>x.elim);obtain⟨rfl,g,hg,hA⟩:=hk;refine xA0 (xAQ (yib (E:=λ_ _=>False) (st:=SortSt.mk' κ (vs.toArray.zip vs.toArray) (List.toArray []) 7 none) (Q:=λ_ st=>failedOf st=none/\(arrOf st).toList.Perm (vs.toArray.zip vs.toArray).toList) hA (by show(vs.toArray.zip vs.toArray).size<64;rw[Array.size_zip,xA5];omega) rfl ?_ rfl rfl λst h1 h2=>⟨h1,h2⟩) ?_ λ_ _ x=>x.elim)
  ·intro x hx;rw[show arrOf (SortSt.mk' κ (vs.toArray.zip vs.toArray) (List.toArray []) 7 none)=vs.toArray.zip vs.toArray from rfl,yeP]at hx;obtain⟨v,hv,rfl⟩:=xAe.mp hx;exact hg v hv
  rintro⟨⟨⟩,st⟩ s' ⟨rfl,hf,hp⟩;have hp:=zp hp;dsimp only;refine xA0 (seqEpoch_at o2 rfl (xA0 (listUpdate_at o2 rfl ?_ (xB1 _) (zs hp))));rw[show failedOf st=none from hf];simp only[bne_self_eq_false,Bool.false_eq_true,if_false];exact xA3 (last hp)
theorem zfk{l:Addr}{Q:Value->Shared->Prop}(h64:vs.length<64)(hl:s.heap.IsList l vs.toArray)(hz:vs.length<=sizeLine)
  (ask:∀h':Heap,zbv s.heap h'->2<=vs.length->wpAny (model prog w) A.in1.in1 (keyKind' vs.toArray) (λκ s'=>s'={ s with heap:=h' }/\∃g:Keyed->Prop,(∀v∈vs,g (v,v))/\Answ prog w A.in1.in1 { s with heap:=h' } κ g) (λ_ _=>False) { s with heap:=h' })
  (fin:∀(D:Addr) (es:List Value) (h':Heap) (c:Nat),s.heap.objs.size<=D->zbv s.heap h'->h'.get? D=some (seqObj "list" es.toArray c)->es.Perm vs->Q (.ref D) { s with heap:=h' }) :
  wpAny (model prog w) A (call (.builtin "sorted") [.ref l]) Q E s:=by
 apply call_function_entry kind_sorted plain_sorted entry_sorted (args_sorted1 _);refine xA0 (m:=checkCount "sorted" 1 1 _) (xA3 (xA0 (collect_list hl (xA0 (wpAny_newList ?_ hz)) hz)));obtain⟨h1,e1⟩:∃h1,h1=(s.heap.push (seqObj "list" (List.toArray []) 0)).update s.heap.objs.size (Obj.mapSeq (·++vs.toArray)):=⟨_,rfl⟩
 have z1:h1.objs.size=s.heap.objs.size+1:=by rw[e1,Heap.size_update,size_push']
 have k1:zbv s.heap h1:=λb o e=>by
  rw[e1,Heap.get?_update_ne _ _ _ _ (xAy (xAc e)),Heap.get?_push_ne _ _ _ (xAy (xAc e))];exact e
 show wpAny _ _ _ _ _ { s with heap:=((s.heap.push (seqObj "list" (List.toArray []) 0)).update s.heap.objs.size (Obj.mapSeq (·++vs.toArray))).push (seqObj "list" vs.toArray 0) };rw[<-e1];have o2:(h1.push (seqObj "list" vs.toArray 0)).get? h1.objs.size=some (seqObj "list" vs.toArray 0):=xA6 _ rfl;refine xA0 (xB9 (xAF slot_list_sort ⟨_,o2,rfl⟩ entry_list_sort ?_ (args_list_sort _)));have z2:s.heap.objs.size<=h1.objs.size:=by omega
 refine zdO (s:={ s with heap:=h1.push (seqObj "list" vs.toArray 0) }) (h₀:=s.heap) h64 o2 hz (k1.trans (zbv.push _ _)) (Heap.get?_none_of_le z2) (λh' k=>ask h' k) λes h' c k e p=>⟨_,rfl,xA3 ⟨_,rfl,fin _ es h' c z2 k e p⟩⟩
end
theorem yic:∀ {ds:List Addr} {us:List Value},Vals (ds.map V.ref) us->us=ds.map Value.ref
 | [],_,.nil=>rfl
 |d::ds,_,.cons r t=>by cases r;rw[yic t];rfl
theorem zim:∀ {ds:List Addr},Vals (ds.map V.ref) (ds.map Value.ref)
 | []=>.nil
 |d::ds=>.cons rfl zim
theorem zb8:∀ {es ds:List Value},es.Perm ds->∀ {l:List Addr},ds=l.map Value.ref->∃m:List Addr,es=m.map Value.ref/\m.Perm l
 |_,_,.nil,l,e=>by cases l with|nil=>exact⟨[],rfl,.nil⟩|cons _ _=>cases e
 |_,_,.cons x p,l,e=>by
  cases l with
  |nil=>cases e
  |cons y l=>
   injection e with e1 e2;obtain⟨m,h1,h2⟩:=zb8 p e2;exact⟨y::m,by rw[e1,h1];rfl,h2.cons _⟩
 |_,_,.swap x y r,l,e=>by
  rcases l with _ |⟨u,_ |⟨v,l⟩⟩
  ·cases e
  ·cases e
  ·injection e with e1 e2;injection e2 with e2 e3;exact⟨v::u::l,by rw[e1,e2,e3];rfl,.swap ..⟩
 |_,_,.trans p q,l,e=>by
  obtain⟨m,h1,h2⟩:=zb8 q e;obtain⟨m',h3,h4⟩:=zb8 p h1;exact⟨m',h3,h4.trans h2⟩
noncomputable def IntV(v:Value):Prop:=∃i t,v = .int i t
theorem zf1{prog:Program}{w:World}{A:Around}{b fin:Bool}{Q:Bool->Shared->Prop}{s:Shared}(q:∀c,Q c s):∀(l:List (Value×Value)) (i:Nat),(∀p∈l,IntV p.1/\IntV p.2)->KatLex prog w A b fin Q l i s
 | [],_,_=>q _
 |(x,y)::l,i,h=>by
  obtain⟨⟨a,t,rfl⟩,⟨c,u,rfl⟩⟩:=h _ (xAf ..);refine kat_cons (wpAny_eqBool_int ?_);refine kat_go (λ_=>kat_yes (zf1 q l (i+1) λp hp=>h p (xAd _ hp))) (λ_=>kat_no ?_);cases (b&&i==0)
  ·exact kat_one _ _ (P.lt_int (q _))
  ·exact oneLt_int (q _)
section
variable {X:Cx}
theorem zgH{K:PySem.W.Frag}{tg l:Expr}{tl:TE}(h:X.K=K)(hl:PE X l tl):PI X tg l (yhM K tl):=h ▸ ybc hl
noncomputable def zig(K:PySem.W.Frag):List V->Hp->VK->Prop:=λxs H Q=>∃(a:Addr) (ds:List Addr),xs=[.ref a]/\ds.length<64/\SqL K H a (ds.map V.ref)/\(∀d∈ds,∃rs:List Int,0<rs.length/\SqT K H d (rs.map V.int))/\
 ∀(l:Addr) (es:List Addr),H l=none->es.Perm ds->Q (.ref l) (upd H l (.lst (es.map V.ref)))
theorem yd7:∀ {ns:List Int} {us:List Value},Vals (ns.map V.int) us->∀v∈us,IntV v
 | [],_,.nil=>λv hv=>by cases hv
 |n::ns,_,.cons r t=>λv hv=>by
  rcases xAa.mp hv with rfl|hv
  ·obtain⟨t,e⟩:=r;exact⟨n,t,e⟩
  ·exact yd7 t v hv
theorem ydR:yb0 X (.builtin "sorted") (zig X.K):=by
 intro pins s σ H xs us Q I r h;obtain⟨a,ds,rfl,h64,ha,hd,q⟩:=h;obtain⟨u,rfl,rx⟩:=zcx r;cases rx;obtain⟨its,r1,p1,z1⟩:=I.list ha;have e:=yic r1;subst e;rw[xA1]at z1;refine zfk (by rw[xA1];exact h64) p1.isList (by rw[xA1];exact z1) (λh' k h2=>?_) λD es h' c hD k e p=>?_
 ·have hT:∀d∈ds,∃(o:Obj) (us:List Value) (n:Nat),h'.get? d=some o/\o.cls = .type "tuple"/\o.data = .seq us.toArray n/\0<us.length/\∀v∈us,IntV v:=λd hdd=>by
   obtain⟨rs,h0,hs⟩:=hd d hdd;obtain⟨us,rv,⟨o,e,c,n,dt⟩,_⟩:=I.tuple hs;have hl:=rv.length;rw[xA1]at hl;exact⟨o,us,n,k d o e,c,dt,(),yd7 rv⟩
  have hK:∀l:List Addr,(∀d∈l,d∈ds)->∃fs:List Value,KatTups h' (l.map Value.ref) fs/\fs.length=l.length/\∀v∈fs,IntV v:=by
   intro l
   induction l with
   |nil=>exactλ_=>⟨[],trivial,rfl,λv hv=>by cases hv⟩
   |cons d l ih=>
    intro hl;obtain⟨fs,k1,k2,k3⟩:=ih λx hx=>hl x (xAd _ hx)
    obtain⟨o,us,n,e,c,dt,h0,hv⟩:=hT d (hl d (xAf ..));rcases us with _ |⟨f,us⟩
    ·cases h0
    ·exact⟨f::fs,KatTups.cons e c dt (by simp) k1,by simp[k2],λv hv'=>by
      rcases xAa.mp hv' with rfl|hv'
      ·exact hv _ (xAf ..)
      ·exact k3 v hv'⟩
  obtain⟨fs,k1,k2,k3⟩:=hK ds λ_ h=>h
  rw[xA1]at h2;refine kat_kind (T:=.type "int") k1 () (λv hv=>?_) rfl ⟨rfl,λx=>∃d∈ds,x.1 = .ref d,λv hv=>?_,?_⟩
  ·obtain⟨i,t,rfl⟩:=k3 v hv;exact Looks.of_pure rfl
  ·obtain⟨d,hd,e⟩:=xAe.mp hv;exact⟨d,hd,e.symm⟩
  ·rintro⟨x,x'⟩ ⟨y,y'⟩ C ⟨d1,m1,e1⟩ ⟨d2,m2,e2⟩ hC;dsimp only at e1 e2;subst e1 e2;obtain⟨o1,us1,n1,e1,c1,q1,_,v1⟩:=hT d1 m1;obtain⟨o2,us2,n2,e2,c2,q2,_,v2⟩:=hT d2 m2;refine kat_lt e1 q1 e2 q2 (zf1 (λc=>hC c) _ _ λp hp=>?_);obtain⟨x,y⟩:=p;have:=List.of_mem_zip hp;exact⟨v1 _ (by simpa using this.1),v2 _ (by simpa using this.2)⟩
 ·obtain⟨m,rfl,pm⟩:=zb8 p rfl;refine⟨.ref D,_,I.laid (t':=s.toks) (o:=.lst (m.map V.ref)) k hD ⟨?_,m.map Value.ref,c,zim,e⟩,rfl,q _ _ (I.hok.fresh hD) pm⟩;rw[xA1,pm.length_eq];exact z1
end
end L2
end
section
-- text: ExtRz
namespace L2
open PySem PySem.Spec PyProof.Rows
section
variable {X:Cx}
noncomputable def yip(K:PySem.W.Frag):R2:=λx y H Q=>∃(a b:Addr) (n:Nat) (xs ys:List V),x = .ref a/\y = .ref b/\n<=60/\SqL K H a xs/\SqL K H b ys/\xs.length=ys.length/\(∀(i:Nat) x y,xs[i]?=some x->ys[i]?=some y->Eqv K H n x y)/\Q (.bl false) H
theorem yhG(hu:X.A.units+64<cLine):OpR X (compareOp .NotEq) (yip X.K):=by
 intro pins s σ H x y v u Q I rx ry h;obtain⟨a,b,n,xs,ys,rfl,rfl,hn,ha,hb,hl,hx,q⟩:=h;cases rx;cases ry;obtain⟨us,r1,p1,z1⟩:=I.list ha;obtain⟨vs,r2,p2,z2⟩:=I.list hb;have l1:=r1.length;have l2:=r2.length;refine SeqAt.RcNeAt.lists (e:=λ_=>true) p1.isList p2.isList (by rw[xA5,xA5];omega) () (λj h1 h2=>?_) _ _ _ _ ?_
 ·obtain⟨x1,e1,q1⟩:=ycC r1 h1;obtain⟨y1,e2,q2⟩:=ycC r2 h2;exact yhf I n X.A.in1 x1 y1 _ _ (by show X.A.units+1+n<cLine;omega) (hx j x1 y1 e1 e2) q1 q2
 have e2:((List.range us.toArray.size).all (λ_=>true))=true:=by simp
 rw[e2];exact⟨.bl _,H,I,rfl,q⟩
end
end L2
namespace L2
open PySem PySem.Spec PyProof.Rows
end L2
end
section
-- text: P1
namespace My
open PySem L2 Dg
noncomputable def top(i:Nat):Stmt:=PySem.Challenge.pw_roundwords_k94_whole_turned_and_own.main.body.getD i (.Pass ⟨0,0,0,0⟩)
noncomputable abbrev ybr:Stmt:=top 1
noncomputable abbrev zbA:Stmt:=top 7
noncomputable abbrev zgq:Stmt:=top 8
noncomputable abbrev zbw:Stmt:=top 9
noncomputable abbrev yeD:Stmt:=top 10
noncomputable abbrev zdz:Stmt:=top 11
noncomputable abbrev zeq:Stmt:=top 12
noncomputable abbrev zbq:Stmt:=top 13
noncomputable abbrev zgh:Stmt:=top 14
noncomputable abbrev yeM:Stmt:=top 15
noncomputable abbrev ycn:Stmt:=top 16
noncomputable abbrev zbQ:Stmt:=top 18
noncomputable abbrev ybj:Stmt:=top 19
noncomputable abbrev zcT:Stmt:=top 21
noncomputable abbrev zc0:Stmt:=top 22
noncomputable abbrev zb4:Stmt:=top 23
noncomputable abbrev zci:Stmt:=top 24
noncomputable abbrev zep:Stmt:=top 25
noncomputable abbrev ycF:Stmt:=top 27
noncomputable abbrev ybv:Stmt:=top 28
noncomputable abbrev zbe:Stmt:=top 29
noncomputable abbrev ydM:Stmt:=top 31
noncomputable abbrev zbU:Stmt:=top 33
noncomputable abbrev zb6:Stmt:=top 35
noncomputable abbrev zbo:Stmt:=top 38
noncomputable abbrev zeF:Stmt:=top 39
noncomputable abbrev yfN:Stmt:=top 40
noncomputable abbrev zcl:Stmt:=top 41
noncomputable abbrev zfa:Stmt:=top 42
noncomputable abbrev ycJ:Stmt:=top 43
noncomputable abbrev ybO:Stmt:=top 45
noncomputable abbrev zb0:Stmt:=top 46
noncomputable abbrev zbD:Stmt:=top 47
noncomputable abbrev ybB:Stmt:=top 48
noncomputable abbrev ybx:Stmt:=top 49
noncomputable abbrev ybp:Stmt:=top 50
noncomputable abbrev ya2:Stmt:=top 51
noncomputable abbrev zbl:Stmt:=top 52
noncomputable abbrev zbk:Stmt:=top 53
noncomputable abbrev yb2:Stmt:=top 54
noncomputable abbrev zbJ:Stmt:=top 55
noncomputable abbrev ybP:Stmt:=top 56
noncomputable abbrev ybN:Stmt:=top 57
noncomputable abbrev zbN:Stmt:=top 58
noncomputable abbrev ybZ:Stmt:=top 59
noncomputable abbrev yaF:Stmt:=top 60
noncomputable abbrev ycl:Stmt:=top 61
noncomputable abbrev zaY:Stmt:=top 62
noncomputable abbrev zay:Stmt:=top 63
noncomputable abbrev yaA:Stmt:=top 64
noncomputable abbrev yew:Stmt:=top 65
noncomputable def yg9:List Str:=["range","len","abs","min","max","all","any","isinstance","int","bool","tuple","list","zip","enumerate","repr","dict","reversed","sorted","sum","set","str"]
noncomputable abbrev Bl(mg:Str->Option Value):Prop:=∀x∈yg9,mg x=none
noncomputable def Fld(K:PySem.W.Frag)(H:Hp)(a:Addr)(p m t:Nat):Prop:=SqT K H a [.int p,.int m,.int t]
theorem Same.tup{K:PySem.W.Frag}{H H':Hp}{a:Addr}{xs:List V}(e:Same H H')(h:SqT K H a xs):SqT K H' a xs:=by
 rcases h with(h |⟨o,h⟩)|h
 ·exact .inl (.inl (e _ _ h))
 ·exact .inl (.inr ⟨o,e _ _ h⟩)
 ·exact .inr h
noncomputable def mI(σ:St)(i:Nat):Nat:=match σ[i]? with
 |some (some (.int n))=>n.toNat
 |_=>0
local macro_rules | `(tactic| walk_at "rd") => `(tactic| repeat (first | refine ⟨_, rfl, ?_⟩ | refine ⟨_, _, rfl, rfl, ?_⟩))
theorem yhb{t u:TT}{σ:St}{H:Hp}{Q:Bool->Hp->Prop}{b1 b2:Bool}(h1:∀Q:Bool->Hp->Prop,Q b1 H->t σ H Q)(h2:∀Q:Bool->Hp->Prop,Q b2 H->u σ H Q)(q:Q (b1||b2) H):tOr t u σ H Q:=by
 refine h1 _ ?_;cases b1
 ·exact h2 _ q
 ·exact q
theorem zhD{t u:TT}{σ:St}{H:Hp}{Q:Bool->Hp->Prop}{b1 b2:Bool}(h1:∀Q:Bool->Hp->Prop,Q b1 H->t σ H Q)(h2:b1=true->∀Q:Bool->Hp->Prop,Q b2 H->u σ H Q)(q:Q (b1&&b2) H):tAnd t u σ H Q:=by
 refine h1 _ ?_;cases b1
 ·exact q
 ·exact h2 rfl _ q
theorem ycH{X:Cx}{st:Stmt}:PS X st (λ_ _ _=>False):=λ_ _ _ _ _ _ h=>h.elim
section
variable {P:Program} {w:World} {K:PySem.W.Frag} {mg:Str->Option Value} {base:Heap} {f:Addr} {fd:FuncData}
noncomputable def zbO(K:PySem.W.Frag):Sp:=λvs H Q _=>∃(a:Addr) (p m t x y:Nat),vs=[.ref a,.int x,.int y]/\Fld K H a p m t/\2<=p/\p<=64/\∀r:Nat,(∀i,dg p i r=(dg p i x+dg p i y)%p)->Q (.int r) H
theorem ybI:yah ["field","one","other","p","total","unit"] ["field","one","other"] (zae zgq):=⟨rfl,rfl,rfl,∅,rfl,∅,∅⟩
theorem zhv(B:Bl mg)(F:Fun K "plus" "plus" zgq f fd):FnOk P w K mg base CX0 1 f fd ["field","one","other"] (zbO K):=by
 refine F.ok ybI (λvs H Q E h=>?_) (λcdv A outer s H vs Q E hr h=>?_)
 ·obtain⟨a,p,m,t,x,y,rfl,_⟩:=h;rfl
 obtain⟨a,p,m,t,x,y,rfl,hF,hp,hp2,q⟩:=h;refine⟨_,(@yaa _ _ _ _ _ (@yaf _ _ 3 _ _ _ _ ybI.nd rfl (Or.inl rfl) (@zao _ _ _ _ _ _ _ zax (pv 0) yac (λ_ _=>rfl)) ⋯ (by trivial)) (@yaa _ _ _ _ _ (@yaf _ _ 4 _ _ _ _ ybI.nd rfl (Or.inl rfl) yac ⋯ (by trivial)) (@yaa _ _ _ _ _ (@yaf _ _ 5 _ _ _ _ ybI.nd rfl (Or.inl rfl) yac ⋯ (by trivial)) (@yaa _ _ _ _ _ (@zaO _ _ _ _ _ _ xAi (@PW.pt _ _ _ (@yfp _ _ _ _ _ _ _ (@zai _ _ _ _ _ _ _ _ yb3 (pv 1) yac (yaj _)) (@zde _ _ _ _ (@zai _ _ _ _ _ _ _ _ yb3 (pv 2) yac (yaj _))))) (@yaa _ _ _ _ _ (@zbF _ _ 4 _ _ _ _ _ _ ybI.nd rfl (Or.inl rfl) (@zag _ _ _ _ _ _ _ _ yaR (@zag _ _ _ _ _ _ _ _ zaC (@zag _ _ _ _ _ _ _ _ yav (pv 1) (pv 2)) (pv 3)) (pv 5)) zeJ (by trivial)) (@yaa _ _ _ _ _ (@zbF _ _ 1 _ _ _ _ _ _ ybI.nd rfl (Or.inl rfl) (pv 3) ycW (by trivial)) (@yaa _ _ _ _ _ (@zbF _ _ 2 _ _ _ _ _ _ ybI.nd rfl (Or.inl rfl) (pv 3) ycW (by trivial)) (@yad _ _ _ (@zbF _ _ 5 _ _ _ _ _ _ ybI.nd rfl (Or.inl rfl) (pv 3) yeG (by trivial))))))) (@yad _ _ _ (@yai _ _ _ _ (pv 4))))))),?_⟩;refine⟨_,rfl,a,_,_,_,rfl,rfl,hF,rfl,?_⟩;refine yaO (λσ H'=>H'=H/\∃(k o u tt:Nat),σ=[some (.ref a),some (.int o),some (.int u),some (.int p),some (.int tt),some (.int ((p^k:Nat):Int))]/\o=x/p^k/\u=y/p^k/\tt<p^k/\∀i,i<k->dg p i tt=(dg p i x+dg p i y)%p)
  (λσ _=>mI σ 1+mI σ 2) ⟨rfl,0,x,y,0,rfl,by simp,by simp,by simp,λi hi=>absurd hi (Nat.not_lt_zero _)⟩ ?_
 rintro σ H' ⟨rfl,k,o,u,tt,rfl,ho,hu,ht,hd⟩;have pk:0<p^k:=xB7 ();refine yhb (b1:=decide ((0:Int)<o)) (b2:=decide ((0:Int)<u)) (λQ q=>⟨_,rfl,_,_,rfl,rfl,_,rfl,q⟩) (λQ q=>⟨_,rfl,_,_,rfl,rfl,_,rfl,q⟩) ?_;refine ite2 (λc=>?_) (λc=>?_)
 ·simp only[Bool.or_eq_true,xBv]at c;refine⟨λσ' H''=>H''=H'/\σ'=[some (.ref a),some (.int ((o/p:Nat):Int)),some (.int ((u/p:Nat):Int)),some (.int p),some (.int ((tt+(o+u)%p*p^k:Nat):Int)),some (.int ((p^k*p:Nat):Int))],?_,?_⟩
  ·rintro σ' H'' ⟨rfl,rfl⟩;have l1:o/p<=o:=Nat.div_le_self _ _;have l2:u/p<=u:=Nat.div_le_self _ _;have l3:o/p<o\/u/p<u:=by
    rcases c with c|c
    ·exact .inl (Nat.div_lt_self () ())
    ·exact .inr (Nat.div_lt_self () ())
   refine⟨_,?_,rfl,rfl,k+1,o/p,u/p,tt+(o+u)%p*p^k,rfl,?_,?_,?_,λi hi=>?_⟩
   ·show o/p+u/p<o+u;omega
   ·rw[ho,xAD,xBh]
   ·rw[hu,xAD,xBh]
   ·exact zfY ht (xAC _ ())
   ·rw[zfN hp ht (xAC _ ())];by_cases e:i=k
    ·rw[if_pos e,ho,hu,e];unfold dg;rw[Nat.add_mod]
    ·rw[if_neg e];exact hd i ()
  ·walk_at "rd"
   refine⟨by show(0:Int)<p;omega,?_⟩
   walk_at "rd"
   have hm:(o+u)%p<p:=xAC _ ();refine⟨.inl ⟨by show -(2^64:Int)<(((o+u)%p:Nat):Int);omega,by show(((o+u)%p:Nat):Int)<2^64;omega⟩,?_⟩
   walk_at "rd"
   refine⟨⟨by show(0:Int)<p;omega,by show(p:Int)<2^64;omega⟩,?_⟩
   walk_at "rd"
   refine⟨⟨by show(0:Int)<p;omega,by show(p:Int)<2^64;omega⟩,?_⟩
   walk_at "rd"
   refine⟨.inr ⟨by show -(2^64:Int)<p;omega,by show(p:Int)<2^64;omega⟩,?_⟩;exact⟨rfl,rfl⟩
 ·simp only[Bool.or_eq_true,xBv,not_or]at c;refine⟨_,rfl,q tt λi=>?_⟩;by_cases e:i<k
  ·exact hd i e
  ·have hx:x<p^k:=by
    rcases xAN x (p^k) with h|h
    ·exact h
    ·have:=Nat.div_pos h pk;omega
   have hy:y<p^k:=by
    rcases xAN y (p^k) with h|h
    ·exact h
    ·have:=Nat.div_pos h pk;omega
   rw[yas hp ht (),yas hp hx (),yas hp hy ()];simp
noncomputable def za0(K:PySem.W.Frag):Sp:=λvs H Q _=>∃(a:Addr) (p m t d x:Nat),vs=[.ref a,.int d,.int x]/\Fld K H a p m t/\2<=p/\p<=64/\d<2^64/\∀r:Nat,(∀i,dg p i r=d*dg p i x%p)->Q (.int r) H
theorem zaD:yah ["field","digit","one","p","total","unit"] ["field","digit","one"] (zae zbw):=⟨rfl,rfl,rfl,∅,rfl,∅,∅⟩
theorem yda(B:Bl mg)(F:Fun K "digit_times" "digit_times" zbw f fd):FnOk P w K mg base CX0 1 f fd ["field","digit","one"] (za0 K):=by
 refine F.ok zaD (λvs H Q E h=>?_) (λcdv A outer s H vs Q E hr h=>?_)
 ·obtain⟨a,p,m,t,x,y,rfl,_⟩:=h;rfl
 obtain⟨a,p,m,t,d,x,rfl,hF,hp,hp2,hd2,q⟩:=h;refine⟨_,(@yaa _ _ _ _ _ (@yaf _ _ 3 _ _ _ _ zaD.nd rfl (Or.inl rfl) (@zao _ _ _ _ _ _ _ zax (pv 0) yac (λ_ _=>rfl)) ⋯ (by trivial)) (@yaa _ _ _ _ _ (@yaf _ _ 4 _ _ _ _ zaD.nd rfl (Or.inl rfl) yac ⋯ (by trivial)) (@yaa _ _ _ _ _ (@yaf _ _ 5 _ _ _ _ zaD.nd rfl (Or.inl rfl) yac ⋯ (by trivial)) (@yaa _ _ _ _ _ (@zaO _ _ _ _ _ _ xAi (@zai _ _ _ _ _ _ _ _ yb3 (pv 2) yac (yaj _)) (@yaa _ _ _ _ _ (@zbF _ _ 4 _ _ _ _ _ _ zaD.nd rfl (Or.inl rfl) (@zag _ _ _ _ _ _ _ _ yaR (@zag _ _ _ _ _ _ _ _ zaC (@zag _ _ _ _ _ _ _ _ yaR (pv 1) (pv 2)) (pv 3)) (pv 5)) zeJ (by trivial)) (@yaa _ _ _ _ _ (@zbF _ _ 2 _ _ _ _ _ _ zaD.nd rfl (Or.inl rfl) (pv 3) ycW (by trivial)) (@yad _ _ _ (@zbF _ _ 5 _ _ _ _ _ _ zaD.nd rfl (Or.inl rfl) (pv 3) yeG (by trivial)))))) (@yad _ _ _ (@yai _ _ _ _ (pv 4))))))),?_⟩;refine⟨_,rfl,a,_,_,_,rfl,rfl,hF,rfl,?_⟩;refine yaO (λσ H'=>H'=H/\∃(k o tt:Nat),σ=[some (.ref a),some (.int d),some (.int o),some (.int p),some (.int tt),some (.int ((p^k:Nat):Int))]/\o=x/p^k/\tt<p^k/\∀i,i<k->dg p i tt=d*dg p i x%p)
  (λσ _=>mI σ 2) ⟨rfl,0,x,0,rfl,by simp,by simp,λi hi=>absurd hi (Nat.not_lt_zero _)⟩ ?_
 rintro σ H' ⟨rfl,k,o,tt,rfl,ho,ht,hd⟩;have pk:0<p^k:=xB7 ()
 walk_at "rd"
 refine ite2 (λc=>?_) (λc=>?_)
 ·have c':0<o:=by have:=xAh c;omega
  refine⟨λσ' H''=>H''=H'/\σ'=[some (.ref a),some (.int d),some (.int ((o/p:Nat):Int)),some (.int p),some (.int ((tt+d*o%p*p^k:Nat):Int)),some (.int ((p^k*p:Nat):Int))],?_,?_⟩
  ·rintro σ' H'' ⟨rfl,rfl⟩;refine⟨_,?_,rfl,rfl,k+1,o/p,tt+d*o%p*p^k,rfl,?_,?_,λi hi=>?_⟩
   ·show o/p<o;exact Nat.div_lt_self c' ()
   ·rw[ho,xAD,xBh]
   ·exact zfY ht (xAC _ ())
   ·rw[zfN hp ht (xAC _ ())];by_cases e:i=k
    ·rw[if_pos e,ho,e];unfold dg;rw[Nat.mul_mod_mod]
    ·rw[if_neg e];exact hd i ()
  ·have hm:d*o%p<p:=xAC _ ()
   walk_at "rd"
   refine⟨.inl ⟨by show -(2^64:Int)<(d:Int);omega,by show(d:Int)<2^64;omega⟩,?_⟩
   walk_at "rd"
   refine⟨by show(0:Int)<p;omega,?_⟩
   walk_at "rd"
   refine⟨.inl ⟨by show -(2^64:Int)<((d*o%p:Nat):Int);omega,by show((d*o%p:Nat):Int)<2^64;omega⟩,?_⟩
   walk_at "rd"
   refine⟨⟨by show(0:Int)<p;omega,by show(p:Int)<2^64;omega⟩,?_⟩
   walk_at "rd"
   refine⟨.inr ⟨by show -(2^64:Int)<p;omega,by show(p:Int)<2^64;omega⟩,?_⟩;exact⟨rfl,rfl⟩
 ·have c':o=0:=by have:=of_decide_eq_false (Bool.eq_false_iff.mpr c);omega
  refine⟨_,rfl,q tt λi=>?_⟩;by_cases e:i<k
  ·exact hd i e
  ·have hx:x<p^k:=by
    rcases xAN x (p^k) with h|h
    ·exact h
    ·have:=Nat.div_pos h pk;omega
   rw[yas hp ht (),yas hp hx ()];simp
noncomputable def yam:Sp:=λvs H Q _=>∃(b k:Nat),vs=[.int b,.int k]/\b<=64/\k<=1000/\Q (.int ((b^k:Nat):Int)) H
theorem yaU:yah ["base","many","product","step"] ["base","many"] (zae ybr):=⟨rfl,rfl,rfl,∅,rfl,∅,∅⟩
theorem zcS(B:Bl mg)(F:Fun K "number_power" "number_power" ybr f fd):FnOk P w K mg base CX0 1 f fd ["base","many"] yam:=by
 refine F.ok yaU (λvs H Q E h=>?_) (λcdv A outer s H vs Q E hr h=>?_)
 ·obtain⟨b,k,rfl,_⟩:=h;rfl
 obtain⟨b,k,rfl,hb,hk,q⟩:=h;refine⟨_,(@yaa _ _ _ _ _ (@yaf _ _ 2 _ _ _ _ yaU.nd rfl (Or.inl rfl) yac ⋯ (by trivial)) (@yaa _ _ _ _ _ (@zaF _ _ _ _ _ _ _ _ xAi rfl (@yaG _ _ _ _ _ _ rfl (B "range" #[]) (@zaa _ _ _ _ _ (pv 1) zab ⋯) ⋯) (@yae _ _ 3 _ yaU.nd rfl (Or.inl rfl) (by trivial)) (@yad _ _ _ (@zbF _ _ 2 _ _ _ _ _ _ yaU.nd rfl (Or.inl rfl) (pv 0) yeG (by trivial))) (by intro _;rfl)) (@yad _ _ _ (@yai _ _ _ _ (pv 2))))),?_⟩;refine⟨_,rfl,k,rfl,(),(),zaU (n:=k) (λi σ H'=>H'=H/\∃s,σ=[some (.int b),some (.int k),some (.int ((b^i:Nat):Int)),s]) ⟨rfl,none,rfl⟩ ?_ ?_⟩
 ·rintro i σ H' hi ⟨rfl,s,rfl⟩
  walk_at "rd"
  refine⟨.inr ⟨(),()⟩,rfl,some (.int (0+(i:Int))),?_⟩;rw[xAD];rfl
 ·rintro σ H' ⟨rfl,s,rfl⟩;exact⟨_,rfl,q⟩
theorem ydw{i j:Int}(h:i=j):V.int i=V.int j:=congrArg V.int h
noncomputable def ycD(K:PySem.W.Frag):Sp:=λvs H Q _=>∃(a:Addr) (p m t x y:Nat),vs=[.ref a,.int x,.int y]/\Fld K H a p m t/\2<=p/\p<=64/\∀r:Nat,(∀i,dg p i r=(dg p i x+(p-1)*dg p i y)%p)->Q (.int r) H
theorem zgQ:yah ["field","one","other"] ["field","one","other"] (zae yeD):=⟨rfl,rfl,rfl,∅,rfl,∅,∅⟩
theorem yg3(B:Bl mg)(xC5:Has P w K mg base 1 "plus" ["field","one","other"] (zbO K))(xBS:Has P w K mg base 1 "digit_times" ["field","digit","one"] (za0 K))(F:Fun K "minus" "minus" yeD f fd):FnOk P w K mg base CX0 2 f fd ["field","one","other"] (ycD K):=by
 refine F.ok zgQ (λvs H Q E h=>?_) (λcdv A outer s H vs Q E hr h=>?_)
 ·obtain⟨a,p,m,t,x,y,rfl,_⟩:=h;rfl
 obtain⟨a,p,m,t,x,y,rfl,hF,hp,hp2,q⟩:=h;refine⟨_,(@yad _ _ _ (@yai _ _ _ _ (@zad _ _ _ _ _ _ _ _ _ _ _ xC5 hr #[] rfl (@zaa _ _ _ _ _ (pv 0) (@zaa _ _ _ _ _ (pv 1) (@zaa _ _ _ _ _ (@zad _ _ _ _ _ _ _ _ _ _ _ xBS hr #[] rfl (@zaa _ _ _ _ _ (pv 0) (@zaa _ _ _ _ _ (@zag _ _ _ _ _ _ _ _ yaW (@zao _ _ _ _ _ _ _ zax (pv 0) yac (λ_ _=>rfl)) yac) (@zaa _ _ _ _ _ (pv 2) zab ⋯) ⋯) ⋯) #[] ⋯ ⋯) zab ⋯) ⋯) ⋯) #[] ⋯ ⋯))),?_⟩
 walk_at "rd"
 refine⟨a,_,_,_,rfl,rfl,hF,rfl,?_⟩
 walk_at "rd"
 refine⟨a,p,m,t,p-1,y,by dsimp only;rw[show((p:Nat):Int)-1=((p-1:Nat):Int) by omega];rfl,hF,hp,hp2,(),λr1 h1=>?_⟩;refine⟨a,p,m,t,x,r1,rfl,hF,hp,hp2,λr h2=>q r λi=>?_⟩;rw[h2 i,h1 i,Nat.add_mod_mod]
noncomputable def yd6(K:PySem.W.Frag):Sp:=λvs H Q _=>∃(a:Addr) (p m t x:Nat),vs=[.ref a,.int x]/\Fld K H a p m t/\2<=p/\1<=m/\p^m<=64/\t<p^m/\x<p^m/\∀r:Nat,(∀i,dg p i r=yaH m (λi=>dg p i t) (λi=>dg p i x) i%p)->Q (.int r) H
theorem p_le{p m:Nat}(hp:2<=p)(hm:1<=m)(h:p^m<=64):p<=64:=xAM (by simpa using xB6 (n:=p) () hm) h
theorem m_le{p m:Nat}(hp:2<=p)(h:p^m<=64):m<=6:=by
 rcases xAN 6 m with h1|h1
 ·have:=Nat.pow_le_pow_left hp m;have:=xB6 (n:=2) () h1;omega
 ·exact h1
theorem ybu:yah ["field","one","p","m","top","last_unit","moved"] ["field","one"] (zae zdz):=⟨rfl,rfl,rfl,∅,rfl,∅,∅⟩
theorem zfF(B:Bl mg)(xC5:Has P w K mg base 1 "plus" ["field","one","other"] (zbO K))(xBS:Has P w K mg base 1 "digit_times" ["field","digit","one"] (za0 K))(xC2:Has P w K mg base 1 "number_power" ["base","many"] yam)(F:Fun K "lifted" "lifted" zdz f fd):FnOk P w K mg base CX0 2 f fd ["field","one"] (yd6 K):=by
 refine F.ok ybu (λvs H Q E h=>?_) (λcdv A outer s H vs Q E hr h=>?_)
 ·obtain⟨a,p,m,t,x,rfl,_⟩:=h;rfl
 obtain⟨a,p,m,t,x,rfl,hF,hp,hm,hpm,ht,hx,q⟩:=h;have hp2:=p_le hp hm hpm;have hm6:=m_le hp hpm;refine⟨_,(@yaa _ _ _ _ _ (@za5 _ _ _ _ _ _ (pv 0) (@zaX _ _ _ _ _ _ rfl (@yag _ _ _ _ _ (@yae _ _ 2 _ ybu.nd rfl (Or.inl rfl) (by trivial)) (@yag _ _ _ _ _ (@yae _ _ 3 _ ybu.nd rfl (Or.inl rfl) (by trivial)) (@yag _ _ _ _ _ (@yae _ _ 4 _ ybu.nd rfl (Or.inl rfl) (by trivial)) yaE ⋯) ⋯) ⋯) ⋯ ⋯) ⋯ ⋯ ⋯) (@yaa _ _ _ _ _ (@yaf _ _ 5 _ _ _ _ ybu.nd rfl (Or.inl rfl) (@zad _ _ _ _ _ _ _ _ _ _ _ xC2 hr #[] rfl (@zaa _ _ _ _ _ (pv 2) (@zaa _ _ _ _ _ (@zag _ _ _ _ _ _ _ _ yaW (pv 3) yac) zab ⋯) ⋯) #[] ⋯ ⋯) ⋯ (by trivial)) (@yaa _ _ _ _ _ (@yaf _ _ 6 _ _ _ _ ybu.nd rfl (Or.inl rfl) (@zag _ _ _ _ _ _ _ _ yaR (@zag _ _ _ _ _ _ _ _ zaC (pv 1) (pv 5)) (pv 2)) ⋯ (by trivial)) (@yad _ _ _ (@yai _ _ _ _ (@zad _ _ _ _ _ _ _ _ _ _ _ xC5 hr #[] rfl (@zaa _ _ _ _ _ (pv 0) (@zaa _ _ _ _ _ (pv 6) (@zaa _ _ _ _ _ (@zad _ _ _ _ _ _ _ _ _ _ _ xBS hr #[] rfl (@zaa _ _ _ _ _ (pv 0) (@zaa _ _ _ _ _ (@zag _ _ _ _ _ _ _ _ ycK (pv 1) (pv 5)) (@zaa _ _ _ _ _ (pv 4) zab ⋯) ⋯) ⋯) #[] ⋯ ⋯) zab ⋯) ⋯) ⋯) #[] ⋯ ⋯)))))),?_⟩;refine⟨_,rfl,a,_,rfl,hF,rfl,_,_,rfl,_,_,rfl,_,_,rfl,rfl,?_⟩
 walk_at "rd"
 refine⟨p,m-1,by dsimp only;rw[show((m:Nat):Int)-1=((m-1:Nat):Int) by omega];rfl,hp2,(),?_⟩;have hl:p^(m-1)<=64:=xAM (xB6 () ()) hpm;have hl0:0<p^(m-1):=xB7 ()
 walk_at "rd"
 refine⟨by show(0:Int)<((p^(m-1):Nat):Int);omega,?_⟩
 walk_at "rd"
 refine⟨.inr ⟨by show -(2^64:Int)<(p:Int);omega,by show(p:Int)<2^64;omega⟩,?_⟩
 walk_at "rd"
 refine⟨⟨by show(0:Int)<((p^(m-1):Nat):Int);omega,by show((p^(m-1):Nat):Int)<2^64;omega⟩,?_⟩
 walk_at "rd"
 have hdl:=zhM hp hm hx;have hdl2:=yii hp (m-1) x;refine⟨a,p,m,t,x/p^(m-1),t,rfl,hF,hp,hp2,(),λr1 h1=>?_⟩;refine⟨a,p,m,t,x%p^(m-1)*p,r1,rfl,hF,hp,hp2,λr h2=>q r λi=>?_⟩;rw[h2 i,h1 i,ziB hp,yih hp,hdl,Nat.add_mod_mod];unfold yaH yaL;by_cases hi:i<m
 ·rw[if_pos hi];by_cases h0:i=0
  ·rw[if_pos h0,if_pos h0]
  ·rw[if_neg h0,if_neg h0,if_pos ()]
 ·rw[if_neg hi,if_neg (),if_neg (),yas hp ht ()];simp
noncomputable def zba(K:PySem.W.Frag):Sp:=λvs H Q _=>∃(a:Addr) (p m t x y:Nat),vs=[.ref a,.int x,.int y]/\Fld K H a p m t/\2<=p/\1<=m/\p^m<=64/\t<p^m/\x<p^m/\y<p^m/\
 ∀r:Nat,r<p^m->(∀i,i<m->dg p i r=tn m (λi=>dg p i t) m (λi=>dg p i x) (λi=>dg p i y) i%p)->Q (.int r) H
theorem ybR:yah ["field","one","other","p","total"] ["field","one","other"] (zae zeq):=⟨rfl,rfl,rfl,∅,rfl,∅,∅⟩
theorem zgz(B:Bl mg)(xC5:Has P w K mg base 1 "plus" ["field","one","other"] (zbO K))(xBS:Has P w K mg base 1 "digit_times" ["field","digit","one"] (za0 K))(xBX:Has P w K mg base 2 "lifted" ["field","one"] (yd6 K))(F:Fun K "times" "times" zeq f fd):FnOk P w K mg base CX0 3 f fd ["field","one","other"] (zba K):=by
 refine F.ok ybR (λvs H Q E h=>?_) (λcdv A outer s H vs Q E hr h=>?_)
 ·obtain⟨a,p,m,t,x,y,rfl,_⟩:=h;rfl
 obtain⟨a,p,m,t,x,y,rfl,hF,hp,hm,hpm,ht,hx,hy,q⟩:=h;have hp2:=p_le hp hm hpm;refine⟨_,(@yaa _ _ _ _ _ (@yaf _ _ 3 _ _ _ _ ybR.nd rfl (Or.inl rfl) (@zao _ _ _ _ _ _ _ zax (pv 0) yac (λ_ _=>rfl)) ⋯ (by trivial)) (@yaa _ _ _ _ _ (@yaf _ _ 4 _ _ _ _ ybR.nd rfl (Or.inl rfl) yac ⋯ (by trivial)) (@yaa _ _ _ _ _ (@zaO _ _ _ _ _ _ xAi (@zai _ _ _ _ _ _ _ _ yb3 (pv 1) yac (yaj _)) (@yaa _ _ _ _ _ (@yaf _ _ 4 _ _ _ _ ybR.nd rfl (Or.inl rfl) (@zad _ _ _ _ _ _ _ _ _ _ _ xC5 hr #[] rfl (@zaa _ _ _ _ _ (pv 0) (@zaa _ _ _ _ _ (pv 4) (@zaa _ _ _ _ _ (@zad _ _ _ _ _ _ _ _ _ _ _ xBS hr #[] rfl (@zaa _ _ _ _ _ (pv 0) (@zaa _ _ _ _ _ (@zag _ _ _ _ _ _ _ _ zaC (pv 1) (pv 3)) (@zaa _ _ _ _ _ (pv 2) zab ⋯) ⋯) ⋯) #[] ⋯ ⋯) zab ⋯) ⋯) ⋯) #[] ⋯ ⋯) ⋯ (by trivial)) (@yaa _ _ _ _ _ (@zbF _ _ 1 _ _ _ _ _ _ ybR.nd rfl (Or.inl rfl) (pv 3) ycW (by trivial)) (@yad _ _ _ (@yaS _ _ _ _ _ _ _ _ (@zai _ _ _ _ _ _ _ _ yb3 (pv 1) yac (yaj _)) (@yad _ _ _ (@yaf _ _ 2 _ _ _ _ ybR.nd rfl (Or.inl rfl) (@zad _ _ _ _ _ _ _ _ _ _ _ xBX hr #[] rfl (@zaa _ _ _ _ _ (pv 0) (@zaa _ _ _ _ _ (pv 2) zab ⋯) ⋯) #[] ⋯ ⋯) ⋯ (by trivial))) zas))))) (@yad _ _ _ (@yai _ _ _ _ (pv 4)))))),?_⟩;refine⟨_,rfl,a,_,_,_,rfl,rfl,hF,rfl,?_⟩;refine yaO (λσ H'=>H'=H/\∃(k o u tt:Nat),σ=[some (.ref a),some (.int o),some (.int u),some (.int p),some (.int tt)]/\o<p^k/\u<p^m/\tt<p^m/\
   ∀i,i<m->(dg p i tt+tn m (λi=>dg p i t) k (λi=>dg p i o) (λi=>dg p i u) i)%p=tn m (λi=>dg p i t) m (λi=>dg p i x) (λi=>dg p i y) i%p)
  (λσ _=>mI σ 1) ⟨rfl,m,x,y,0,rfl,hx,hy,xB7 (),λi _=>by rw[ybh,xBu]⟩ ?_
 rintro σ H' ⟨rfl,k,o,u,tt,rfl,ho,hu,htt,hd⟩
 walk_at "rd"
 refine ite2 (λc=>?_) (λc=>?_)
 ·have c':0<o:=by have:=xAh c;omega
  have hk:k≠0:=λe=>by rw[e]at ho;simp at ho;omega
  obtain⟨k,rfl⟩:∃j,k=j+1:=⟨k-1,()⟩
  have om:o%p<p:=xAC _ ();have ho2:o/p<p^k:=Nat.div_lt_of_lt_mul (by rw[xAD,xAL]at ho;exact ho);have ho3:o/p<o:=Nat.div_lt_self c' ();refine⟨λσ' H''=>H''=H'/\∃(o' u' t':Nat),o'=o/p/\σ'=[some (.ref a),some (.int o'),some (.int u'),some (.int p),some (.int t')]/\u'<p^m/\t'<p^m/\
   ∀i,i<m->(dg p i t'+tn m (λi=>dg p i t) k (λi=>dg p i o') (λi=>dg p i u') i)%p=tn m (λi=>dg p i t) m (λi=>dg p i x) (λi=>dg p i y) i%p,?_,?_⟩
  ·rintro σ' H'' ⟨rfl,o',u',t',rfl,rfl,b1,b2,b3⟩;exact⟨_,by show o/p<o;exact ho3,rfl,rfl,k,o/p,u',t',rfl,ho2,b1,b2,b3⟩
  walk_at "rd"
  refine⟨by show(0:Int)<p;omega,?_⟩
  walk_at "rd"
  refine⟨a,p,m,t,o%p,u,rfl,hF,hp,hp2,(),λr1 h1=>?_⟩;refine⟨a,p,m,t,tt,r1,rfl,hF,hp,hp2,λr2 h2=>?_⟩;have hr2:r2<p^m:=yco hp λi hi=>by rw[h2 i,h1 i,yas hp htt hi,yas hp hu hi];simp
  have hd2:∀i,i<m->(dg p i r2+tn m (λi=>dg p i t) k (λi=>dg p i (o/p)) (yaH m (λi=>dg p i t) λi=>dg p i u) i)%p=tn m (λi=>dg p i t) m (λi=>dg p i x) (λi=>dg p i y) i%p:=λi hi=>by
   rw[<-hd i hi,h2 i,h1 i];show _=(dg p i tt+(dg p 0 o*dg p i u+tn m (λi=>dg p i t) k (λj=>dg p (j+1) o) (yaH m (λi=>dg p i t) λi=>dg p i u) i))%p;rw[zcW,ybn,<-Nat.add_assoc];refine ybC ?_ rfl;rw[Nat.mod_mod];exact ybC rfl (Nat.mod_mod _ _)
  walk_at "rd"
  refine⟨⟨by show(0:Int)<p;omega,by show(p:Int)<2^64;omega⟩,?_⟩
  walk_at "rd"
  refine ite2 (λc2=>?_) (λc2=>?_)
  ·walk_at "rd"
   refine⟨a,p,m,t,u,rfl,hF,hp,hm,hpm,ht,hu,λr3 h3=>?_⟩;have hr3:r3<p^m:=yco hp λi hi=>by rw[h3 i];unfold yaH;rw[if_neg ()];simp
   refine⟨rfl,o/p,r3,r2,rfl,rfl,hr3,hr2,λi hi=>?_⟩;rw[<-hd2 i hi];exact ybC rfl (ybi hm k _ _ _ (λj _=>by rw[h3 j,Nat.mod_mod]) i hi)
  ·have c3:o/p=0:=by have:=of_decide_eq_false (Bool.eq_false_iff.mpr c2);exact Nat.le_zero.mp (Int.ofNat_le.mp (show((o/p:Nat):Int)<=((0:Nat):Int) from Int.not_lt.mp this))
   refine⟨rfl,o/p,u,r2,rfl,rfl,hu,hr2,λi hi=>?_⟩;rw[<-hd2 i hi,c3,zcj k _ _ i (λj=>ybh p j),zcj k _ _ i (λj=>ybh p j)]
 ·have c':o=0:=by have:=of_decide_eq_false (Bool.eq_false_iff.mpr c);omega
  refine⟨_,rfl,q tt htt λi hi=>?_⟩;rw[<-hd i hi,c',zcj k _ _ i (λj=>ybh p j),Nat.add_zero,yej]
end
end My
end
section
-- text: P2
namespace My
open PySem L2 Dg
local macro_rules | `(tactic| walk_at "rd") => `(tactic| repeat (first | refine ⟨_, rfl, ?_⟩ | refine ⟨_, _, rfl, rfl, ?_⟩))
theorem zac{H:Hp}{p:Addr}(h:H p=none)(o:HO):Same H (upd H p o):=λb u q=>by rw[zah (zaf q h)];exact q
noncomputable abbrev Vn(n:Nat):V:=.int (n:Int)
noncomputable def Pu(H:Hp)(a g:Addr):Prop:=∃(ns:List Nat) (s t:Nat),H a=some (.lst [.ref g,Vn s,Vn t])/\H g=some (.lst (ns.map Vn))
theorem Pu.ne{H:Hp}{a g:Addr}(h:Pu H a g):a≠g:=by
 obtain⟨ns,s,t,h1,h2⟩:=h;intro e;subst e;rw[h1]at h2;have h3:=HO.lst.inj (xAw h2);cases ns with
 |nil=>cases h3
 |cons n ns=>cases h3
noncomputable def zaq(a g:Addr)(H H':Hp):Prop:=∀b o,b≠a->b≠g->H b=some o->H' b=some o
theorem zaq.refl{a g:Addr}{H:Hp}:zaq a g H H:=λ_ _ _ _ e=>e
theorem zaq.trans{a g:Addr}{H H1 H2:Hp}(h1:zaq a g H H1)(h2:zaq a g H1 H2):zaq a g H H2:=λb o n1 n2 e=>h2 b o n1 n2 (h1 b o n1 n2 e)
theorem Same.x{a g:Addr}{H H1:Hp}(h:Same H H1):zaq a g H H1:=λb o _ _ e=>h b o e
theorem Pu.same{H H':Hp}{a g:Addr}(h:Pu H a g)(s:Same H H'):Pu H' a g:=by
 obtain⟨ns,x,t,h1,h2⟩:=h;exact⟨ns,x,t,s _ _ h1,s _ _ h2⟩
theorem szl(n:Nat)(h:n<=100000:=by omega):n<=sizeLine:=by rw[sizeLine_eq];omega
section
variable {P:Program} {w:World} {K:PySem.W.Frag} {mg:Str->Option Value} {base:Heap} {f:Addr} {fd:FuncData}
theorem za2:yah ["_law_one","_law_many","_law_found","_law_turn"] ["_law_one","_law_many"] (zae zbD):=⟨rfl,rfl,rfl,∅,rfl,∅,∅⟩
theorem yfS(B:Bl mg)(F:Fun K "_law_raised" "_law_raised" zbD f fd):FnOk P w K mg base CX0 1 f fd ["_law_one","_law_many"] yam:=by
 refine F.ok za2 (λvs H Q E h=>?_) (λcdv A outer s H vs Q E hr h=>?_)
 ·obtain⟨b,k,rfl,_⟩:=h;rfl
 obtain⟨b,k,rfl,hb,hk,q⟩:=h;refine⟨_,(yaa (@yaf _ _ 2 _ _ _ _ za2.nd rfl (Or.inl rfl) yac ⋯ (by trivial)) (yaa (@zaF _ _ _ _ _ _ _ _ xAi rfl (@yaG _ _ _ _ _ _ rfl (B "range" #[]) (zaa (pv 1) zab ⋯) ⋯) (@yae _ _ 3 _ za2.nd rfl (Or.inl rfl) (by trivial)) (yad (@yaf _ _ 2 _ _ _ _ za2.nd rfl (Or.inl rfl) (zag yaR (pv 2) (pv 0)) ⋯ (by trivial))) (by intro _;rfl)) (yad (@yai _ _ _ _ (pv 2))))),?_⟩;refine⟨_,rfl,k,rfl,(),(),zaU (n:=k) (λi σ H'=>H'=H/\∃s,σ=[some (.int b),some (.int k),some (.int ((b^i:Nat):Int)),s]) ⟨rfl,none,rfl⟩ ?_ ?_⟩
 ·rintro i σ H' hi ⟨rfl,s,rfl⟩
  walk_at "rd"
  refine⟨.inr ⟨(),()⟩,rfl,some (.int (0+(i:Int))),?_⟩;rw[xAD];rfl
 ·rintro σ H' ⟨rfl,s,rfl⟩;exact⟨_,rfl,q⟩
noncomputable def digL(p m x:Nat):List V:=(List.range m).map λi=>Vn (dg p i x)
theorem yfV(p m x:Nat):digL p (m+1) x=digL p m x++[Vn (dg p m x)]:=by unfold digL;rw[xBa,xA8];rfl
theorem zbx(p m x:Nat):(digL p m x).length=m:=by simp[digL]
noncomputable def zdR(K:PySem.W.Frag):Sp:=λvs H Q _=>∃(a:Addr) (p m t x:Nat),vs=[.ref a,.int x]/\Fld K H a p m t/\2<=p/\p<=64/\m<=64/\∀r H',H r=none->Same H H'->H' r=some (.lst (digL p m x))->Q (.ref r) H'
theorem za3:yah ["_law_field_here","_law_thing","_law_found","_law_k"] ["_law_field_here","_law_thing"] (zae ybB):=⟨rfl,rfl,rfl,∅,rfl,∅,∅⟩
theorem yfx(B:Bl mg)(F:Fun K "_law_digits" "_law_digits" ybB f fd):FnOk P w K mg base CX0 1 f fd ["_law_field_here","_law_thing"] (zdR K):=by
 refine F.ok za3 (λvs H Q E h=>?_) (λcdv A outer s H vs Q E hr h=>?_)
 ·obtain⟨a,p,m,t,x,rfl,_⟩:=h;rfl
 obtain⟨a,p,m,t,x,rfl,hF,hp,hp2,hm,q⟩:=h;refine⟨_,(yaa (@yaf _ _ 2 _ _ _ _ za3.nd rfl (Or.inl rfl) (@yaI _ _ _ _ zab) ⋯ (by trivial)) (yaa (@zaF _ _ _ _ _ _ _ _ xAi rfl (@yaG _ _ _ _ _ _ rfl (B "range" #[]) (zaa (zao zax (pv 0) yac (λ_ _=>rfl)) zab ⋯) ⋯) (@yae _ _ 3 _ za3.nd rfl (Or.inl rfl) (by trivial)) (yaa (@zbM _ _ _ _ (@ydV _ _ _ _ _ _ _ _ _ _ _ _ xBg xBn xBm zbc (pv 2) (zaa (zag zaC (pv 1) (zao zax (pv 0) yac (λ_ _=>rfl))) zab ⋯) ⋯ ⋯ ⋯ ⋯ ⋯) ⋯) (yad (@yaf _ _ 1 _ _ _ _ za3.nd rfl (Or.inl rfl) (zag ycK (pv 1) (zao zax (pv 0) yac (λ_ _=>rfl))) ⋯ (by trivial)))) (by intro _;rfl)) (yad (@yai _ _ _ _ (pv 2))))),?_⟩;refine⟨szl 0,λl hl=>?_⟩;have g1:Same H (upd H l (.lst [])):=zac hl _;refine⟨_,rfl,a,_,_,_,rfl,rfl,Same.tup g1 hF,rfl,m,rfl,(),(),zaU (n:=m) (λi σ H'=>H'=upd H l (.lst (digL p i x))/\∃s,σ=[some (.ref a),some (.int ((x/p^i:Nat):Int)),some (.ref l),s]) ⟨rfl,none,by simp;rfl⟩ ?_ ?_⟩
 ·rintro i σ H' hi ⟨rfl,s,rfl⟩;have g2:Same H (upd H l (.lst (digL p i x))):=zac hl _;refine⟨_,rfl,.inl ⟨rfl,_,SqL.of yab⟩,?_⟩
  walk_at "rd"
  refine⟨a,_,_,_,rfl,rfl,Same.tup g2 hF,rfl,?_⟩
  walk_at "rd"
  refine⟨by show(0:Int)<p;omega,l,_,_,rfl,rfl,yab,by rw[zbx];exact Nat.lt_of_le_of_lt (show i<=1000 by omega) (zal (xA4 _)),?_⟩;rw[yek];have g3:Same H (upd H l (.lst (digL p (i+1) x))):=zac hl _;have e1:digL p i x++[V.int (((x/p^i:Nat):Int)%(p:Int))]=digL p (i+1) x:=by rw[yfV];rfl
  rw[e1];refine⟨_,rfl,_,rfl,a,_,_,_,rfl,rfl,Same.tup g3 hF,rfl,?_⟩
  walk_at "rd"
  refine⟨⟨by show(0:Int)<p;omega,by show(p:Int)<2^64;omega⟩,rfl,some (.int (0+(i:Int))),?_⟩;rw[xAD,<-xBh];rfl
 ·rintro σ H' ⟨rfl,s,rfl⟩;exact⟨_,rfl,q l _ hl (zac hl _) yab⟩
noncomputable def num(p:Nat):List Nat->Nat
 | []=>0
 |d::ds=>num p ds*p+d
theorem zgk{p:Nat}(hp:2<=p):∀(ds:List Nat),(∀d∈ds,d<p)->∀i,dg p i (num p ds)=ds.getD i 0
 | [],_,i=>by simp[num,ybh]
 |d::ds,h,i=>by
  have hd:d<p:=h d xAf;have ih:=zgk hp ds λx hx=>h x (xAd _ hx)
  cases i with
  |zero=>rw[ybn];show(num p ds*p+d)%p=d;rw[xAL,Nat.mul_add_mod,xAW hd]
  |succ i=>
   rw[ybA];show dg p i ((num p ds*p+d)/p)=ds.getD i 0;rw[xAL,Nat.mul_add_div (),Nat.div_eq_of_lt hd,Nat.add_zero];exact ih i
noncomputable def zeb(K:PySem.W.Frag):Sp:=λvs H Q _=>∃(a b:Addr) (p m t:Nat) (ds:List Nat),vs=[.ref a,.ref b]/\Fld K H a p m t/\2<=p/\p<=64/\SqL K H b (ds.map Vn)/\∀H',Same H H'->Q (Vn (num p ds)) H'
theorem za1:yah ["_law_field_here","_law_digits_here","_law_found","_law_digit"] ["_law_field_here","_law_digits_here"] (zae ybx):=⟨rfl,rfl,rfl,∅,rfl,∅,∅⟩
theorem zfH(B:Bl mg)(F:Fun K "_law_number" "_law_number" ybx f fd):FnOk P w K mg base CX0 1 f fd ["_law_field_here","_law_digits_here"] (zeb K):=by
 refine F.ok za1 (λvs H Q E h=>?_) (λcdv A outer s H vs Q E hr h=>?_)
 ·obtain⟨a,b,p,m,t,ds,rfl,_⟩:=h;rfl
 obtain⟨a,b,p,m,t,ds,rfl,hF,hp,hp2,hb,q⟩:=h;refine⟨_,(yaa (@yaf _ _ 2 _ _ _ _ za1.nd rfl (Or.inl rfl) yac ⋯ (by trivial)) (yaa (@zaF _ _ _ _ _ _ _ _ xAi rfl (@ybc _ _ _ _ (@zh3 _ _ _ _ _ _ _ _ (pv 1))) (@yae _ _ 3 _ za1.nd rfl (Or.inl rfl) (by trivial)) (yad (@yaf _ _ 2 _ _ _ _ za1.nd rfl (Or.inl rfl) (zag yav (zag yaR (pv 2) (zao zax (pv 0) yac (λ_ _=>rfl))) (pv 3)) ⋯ (by trivial))) (by intro _;rfl)) (yad (@yai _ _ _ _ (pv 2))))),?_⟩;refine⟨_,rfl,b,_,rfl,hb,λl hl=>?_⟩;have g1:Same H (upd H l (.lst (ds.map Vn).reverse)):=zac hl _;refine⟨l,rfl,⟨_,SqL.of yab⟩,ye4 (xs:=(ds.map Vn).reverse) (λi σ H'=>H'=upd H l (.lst (ds.map Vn).reverse)/\∃s,σ=[some (.ref a),some (.ref b),some (Vn (num p (ds.drop (ds.length-i)))),s]) ⟨rfl,none,by rw[Nat.sub_zero,List.drop_length];rfl⟩ ?_ ?_ ?_⟩
 ·rintro i σ H' hi ⟨rfl,_⟩;exact SqL.of yab
 ·rintro i x σ H' hx ⟨rfl,s,rfl⟩;have hi:i<ds.length:=by have:=(xAo.mp hx).1;simpa using this
  have ex:x=Vn (ds[ds.length-1-i]):=by
   rw[List.getElem?_reverse (by simpa using hi),xA9,xA1,xA7 ()]at hx;exact(xAw hx).symm
  subst ex
  walk_at "rd"
  refine⟨a,_,_,_,rfl,rfl,Same.tup g1 hF,rfl,?_⟩
  walk_at "rd"
  refine⟨.inr ⟨by show -(2^64:Int)<(p:Int);omega,by show(p:Int)<2^64;omega⟩,?_⟩
  walk_at "rd"
  refine⟨rfl,some (Vn (ds[ds.length-1-i])),?_⟩;have e:ds.drop (ds.length-(i+1))=ds[ds.length-1-i]::ds.drop (ds.length-i):=by
   rw[show ds.length-(i+1)=ds.length-1-i by omega,List.drop_eq_getElem_cons ()];congr 2;omega
  rw[e];rfl
 ·rintro σ H' ⟨rfl,s,rfl⟩;refine⟨_,rfl,?_⟩;have e:ds.length-(ds.map Vn).reverse.length=0:=by simp
  rw[e,List.drop_zero];exact q _ g1
noncomputable def yeV(K:PySem.W.Frag):Sp:=λvs H Q _=>∃(a:Addr) (ns:List Int),vs=[.ref a]/\SqL K H a (ns.map V.int)/\∀r g H',H r=none->H g=none->Same H H'->Pu H' r g->Q (.ref r) H'
theorem ya9:yah ["_law_script","_law_seed","_law_great","_law_cell"] ["_law_script"] (zae ybO):=⟨rfl,rfl,rfl,∅,rfl,∅,∅⟩
theorem yhh{i:Int}(h:0<=i):∃n:Nat,V.int i=Vn n:=by obtain⟨n,e⟩:=Int.eq_ofNat_of_zero_le h;exact⟨n,by rw[e]⟩
theorem zgv(B:Bl mg)(F:Fun K "_law_purse" "_law_purse" ybO f fd):FnOk P w K mg base CX0 1 f fd ["_law_script"] (yeV K):=by
 refine F.ok ya9 (λvs H Q E h=>?_) (λcdv A outer s H vs Q E hr h=>?_)
 ·obtain⟨a,ns,rfl,_⟩:=h;rfl
 obtain⟨a,ns,rfl,ha,q⟩:=h;refine⟨_,(yaa (@zbI _ _ 1 2 _ _ _ _ _ _ _ _ _ _ _ rfl ya9.nd rfl rfl #[] rfl rfl (zaa yac (zaa (@yaI _ _ _ _ zab) zab ⋯) ⋯) rfl ⋯) (yaa (@zaF _ _ _ _ _ _ _ _ xAi rfl (@ybc _ _ _ _ (@zbT _ _ _ _ _ _ _ _ _ _ yeI (pv 0) zch (@zck _ _ _ yac))) (@yae _ _ 3 _ ya9.nd rfl (Or.inl rfl) (by trivial)) (yaa (@yaf _ _ 1 _ _ _ _ ya9.nd rfl (Or.inl rfl) (zag zaC (zag yav (zag yav (zag yaR (pv 1) yac) (zag zaC (pv 3) yac)) yac) yac) ⋯ (by trivial)) (yad (@yaS _ _ _ _ _ _ _ _ (@zai _ _ _ _ _ _ _ _ ziA (zam zeY rfl (B "abs" #[]) ycO (zaa (pv 3) zab ⋯) #[] #[] ⋯ ⋯) (zag yeU yac yac) (yaj _)) (yad (@zbM _ _ _ _ (@ydV _ _ _ _ _ _ _ _ _ _ _ _ xBg xBn xBm zbc (pv 2) (zaa (zag zaC (zam zeY rfl (B "abs" #[]) ycO (zaa (pv 3) zab ⋯) #[] #[] ⋯ ⋯) (zag yhQ (zag yeU yac yac) (zag yeU yac yac))) zab ⋯) ⋯ ⋯ ⋯ ⋯ ⋯) ⋯)) zas))) (by intro _;rfl)) (yad (@yai _ _ _ _ (@yaI _ _ _ _ (zaa (pv 2) (zaa (pv 1) (zaa yac zab ⋯) ⋯) ⋯)))))),?_⟩;refine⟨szl 0,λg hg=>?_⟩;have g1:Same H (upd H g (.lst [])):=zac hg _;refine⟨_,_,rfl,?_⟩;refine⟨_,rfl,_,rfl,a,_,rfl,g1.seq ha,λl hl=>?_⟩;generalize hcut:cutV (ns.map V.int) none (some 40)=cs;have hcs:∀x∈cs,∃i:Int,x = .int i:=λx hx=>by
  rw[<-hcut]at hx;unfold cutV at hx;obtain⟨i,_,e⟩:=xAe.mp (List.mem_of_mem_drop (List.mem_of_mem_take hx));exact⟨i,e.symm⟩
 have hlen:cs.length<=40:=by
  rw[<-hcut];unfold cutV;rw[xAH,show HT.sIx (ns.map V.int).length (ns.map V.int).length (some 40)=min 40 (ns.map V.int).length from HT.sIx_nat _ _ 40];omega
 have hgl:l≠g:=λe=>by rw[e,yab]at hl;cases hl
 refine⟨l,rfl,⟨_,SqL.of yab⟩,ye4 (xs:=cs) (λi σ H'=>(∃(s:Nat) (x:Option V) (gs:List Nat),gs.length<=i/\σ=[some (.ref a),some (Vn s),some (.ref g),x]/\H' g=some (.lst (gs.map Vn)))/\Same H H'/\H' l=some (.lst cs))
  ⟨⟨7,none,[],xA4 _,rfl,by rw[zah (Ne.symm hgl)];exact yab⟩,g1.trans (zac hl _),yab⟩ ?_ ?_ ?_⟩
 ·rintro i σ H' hi ⟨_,_,h⟩;exact SqL.of h
 ·rintro i x σ H' hx ⟨⟨s,x0,gs,hgs,rfl,hg'⟩,sm,hl'⟩;obtain⟨c,rfl⟩:=hcs x (xBo hx);have hi:i<cs.length:=(xAo.mp hx).1
  walk_at "rd"
  refine⟨.inr ⟨#[],#[]⟩,?_⟩
  walk_at "rd"
  refine⟨by show(0:Int)<2305843009213693951;decide,?_⟩
  walk_at "rd"
  refine⟨by show(0:Int)<2305843009213693951;decide,?_⟩;obtain⟨s',es⟩:=yhh (i:=((s:Int)*1000003+c%2305843009213693951+12345)%2305843009213693951) (Int.emod_nonneg _ #[]);dsimp only[yaw];rw[es];refine⟨_,rfl,_,rfl,_,_,rfl,rfl,⟨#[],#[],#[]⟩,?_⟩;refine⟨_,_,rfl,rfl,_,rfl,?_⟩;refine ite2 (λc2=>?_) (λc2=>?_)
  ·refine⟨_,rfl,.inl ⟨rfl,_,SqL.of hg'⟩,?_⟩;refine⟨_,rfl,_,rfl,_,_,rfl,rfl,⟨#[],#[],#[]⟩,?_⟩;refine⟨_,_,rfl,rfl,⟨#[],#[],#[]⟩,?_⟩;refine⟨_,_,rfl,rfl,IntMulOk.of_bits ∅ ∅,?_⟩;refine⟨_,_,rfl,rfl,by show(0:Int)<10^Int.toNat 60*10^Int.toNat 60;decide +kernel,?_⟩;obtain⟨d,ed⟩:=yhh (i:=(if c<0 then -c else c)%(10^(60:Int).toNat*10^(60:Int).toNat)) (Int.emod_nonneg _ #[]);dsimp only;rw[ed];refine⟨g,_,_,rfl,rfl,hg',?_,⟨s',some (.int c),gs++[d],by simp;omega,rfl,by rw[yab,xA8];rfl⟩,?_,?_⟩
   ·rw[xA1];exact Nat.lt_of_le_of_lt (show gs.length<=1000 by omega) (zal (xA4 _))
   ·intro b o e;rw[zah (zaf e hg)];exact sm b o e
   ·rw[zah hgl];exact hl'
  ·exact⟨⟨s',some (.int c),gs,(),rfl,hg'⟩,sm,hl'⟩
 ·rintro σ H' ⟨⟨s,x,gs,hgs,rfl,hg'⟩,sm,_⟩;refine⟨_,rfl,_,rfl,szl 3,λr hr=>?_⟩;have ne:g≠r:=zaf hg' hr;refine q r g _ (sm.free hr) hg (sm.trans (zac hr _)) ⟨gs,s,0,yab,?_⟩;rw[zah ne];exact hg'
theorem zdD{α:Type}(x:α)(xs:List α):atI (x::xs) 0=some x:=yaZ (j:=0) rfl
theorem ze6{n:Nat}(h:0<n):ixN n 0=some 0:=by
 unfold ixN;rw[if_pos #[],if_pos ()];rfl
theorem zbf{t u:TS}{D:Ends}{σ:St}{H:Hp}(Ex:St->Hp->Prop)(r:∀σ' H',Ex σ' H'->u D σ' H')(h:∀D':Ends,D'.rt=D.rt->D'.bk=D.bk->D'.ct=D.ct->(∀σ' H',Ex σ' H'->D'.nx σ' H')->t D' σ H):tSeq t u D σ H:=h _ rfl rfl rfl r
noncomputable def ycr:Sp:=λvs H Q _=>∃(a g:Addr) (n:Nat),vs=[.ref a,Vn n]/\Pu H a g/\0<n/\n<2^200/\∀(r:Nat) H',r<n->Pu H' a g->zaq a g H H'->Q (Vn r) H'
noncomputable def ydK(H:Hp)(g:Addr):Nat:=match H g with
 |some (.lst xs)=>xs.length
 |_=>0
theorem zbV{H:Hp}{g:Addr}{xs:List V}(h:H g=some (.lst xs)):ydK H g=xs.length:=by unfold ydK;rw[h]
theorem modn{x:Int}{n:Nat}(h:0<n):∃r:Nat,r<n/\V.int (x%(n:Int))=Vn r:=by
 have h1:=Int.emod_nonneg x (show(n:Int)≠0 by omega);have h2:=Int.emod_lt_of_pos x (show(0:Int)<n by omega);exact⟨(x%(n:Int)).toNat,(),by show V.int _=V.int _;congr 1;omega⟩
theorem zaR:yah ["_law_purse_here","_law_many","_law_digit","_law_turn","_law_prime","_law_once","_law_mixed"] ["_law_purse_here","_law_many"] (zae zb0):=⟨rfl,rfl,rfl,∅,rfl,∅,∅⟩
theorem yhn(B:Bl mg)(F:Fun K "_law_pick" "_law_pick" zb0 f fd):FnOk P w K mg base CX0 1 f fd ["_law_purse_here","_law_many"] ycr:=by
 refine F.ok zaR (λvs H Q E h=>?_) (λcdv A outer s H vs Q E hr h=>?_)
 ·obtain⟨a,g,n,rfl,_⟩:=h;rfl
 obtain⟨a,g,n,rfl,hP,hn,hn2,q⟩:=h;have nag:=hP.ne;refine⟨_,(yaa (@zaO _ _ _ _ _ _ xAi (@PW.pt _ _ _ (@yeZ _ _ _ _ _ _ _ (@zai _ _ _ _ _ _ _ _ (zg5 hr.units0) (zao yan (pv 0) yac (λ_ _=>rfl)) (@yaI _ _ _ _ zab) (yaj _)) (@zds _ _ _ _ (@zai _ _ _ _ _ _ _ _ za4 (zao yan (zao yan (pv 0) yac (λ_ _=>rfl)) yac (λ_ _=>rfl)) yac (yaj _))))) (yad (@zbM _ _ _ _ (@ydV _ _ _ _ _ _ _ _ _ _ _ _ xBg PySem.F.slot_list_pop PySem.F.type_list_pop zgN (zao yan (pv 0) yac (λ_ _=>rfl)) (zaa yac zab ⋯) ⋯ ⋯ ⋯ ⋯ ⋯) ⋯))) (yaa (@yaS _ _ _ _ _ _ _ _ (@zai _ _ _ _ _ _ _ _ (zg5 hr.units0) (zao yan (pv 0) yac (λ_ _=>rfl)) (@yaI _ _ _ _ zab) (yaj _)) (yaa (@yaf _ _ 2 _ _ _ _ zaR.nd rfl (Or.inl rfl) (zag zaC (zao yan (zao yan (pv 0) yac (λ_ _=>rfl)) yac (λ_ _=>rfl)) (pv 1)) ⋯ (by trivial)) (yaa (@za5 _ _ _ _ _ _ (zag yht (zao yan (zao yan (pv 0) yac (λ_ _=>rfl)) yac (λ_ _=>rfl)) (pv 1)) (@zct _ _ _ _ _ _ _ (zao yan (pv 0) yac (λ_ _=>rfl)) yac ybm (by intro _;rfl)) ⋯ ⋯ ⋯) (yad (@yai _ _ _ _ (pv 2))))) zas) (yaa (@za5 _ _ _ _ _ _ (zag yav (zao yan (pv 0) yac (λ_ _=>rfl)) yac) (@zct _ _ _ _ _ _ _ (pv 0) yac ybm (by intro _;rfl)) ⋯ ⋯ ⋯) (yaa (@yaf _ _ 3 _ _ _ _ zaR.nd rfl (Or.inl rfl) (zao yan (pv 0) yac (λ_ _=>rfl)) ⋯ (by trivial)) (yaa (@yaf _ _ 4 _ _ _ _ zaR.nd rfl (Or.inl rfl) (zao yan (@yaI _ _ _ _ (zaa yac (zaa yac (zaa yac (zaa yac (zaa yac (zaa yac (zaa yac zab ⋯) ⋯) ⋯) ⋯) ⋯) ⋯) ⋯)) (zag zaC (pv 3) yac) (λ_ _=>rfl)) ⋯ (by trivial)) (yaa (@yaf _ _ 5 _ _ _ _ zaR.nd rfl (Or.inl rfl) (zag zaC (zag yav (zao yan (pv 0) yac (λ_ _=>rfl)) (zag yaR yac (pv 3))) yac) ⋯ (by trivial)) (yaa (@yaf _ _ 6 _ _ _ _ zaR.nd rfl (Or.inl rfl) (zag yaR (zag zaC (zag yeU (pv 5) yac) yac) (zag yav (zag yaR yac (pv 3)) yac)) ⋯ (by trivial)) (yad (@yai _ _ _ _ (zag zaC (zag ycK (zag zaC (zag yav (pv 6) (zag ycK (zao yan (pv 0) yac (λ_ _=>rfl)) yac)) (pv 4)) yac) (pv 1))))))))))),?_⟩;refine zbf (λσ H'=>σ=[some (.ref a),some (Vn n),none,none,none,none,none]/\Pu H' a g/\zaq a g H H') ?_ ?_
 ·rintro σ H' ⟨rfl,⟨ns,x,t,ha,hg⟩,sm⟩;refine zbf (λσ H1=>ns=[]/\σ=[some (.ref a),some (Vn n),none,none,none,none,none]/\H1 a=some (.lst [.ref g,Vn x,Vn t])/\H1 g=some (.lst [])/\zaq a g H H1) ?_ ?_
  ·rintro σ H1 ⟨rfl,rfl,ha,hg,sm⟩;refine⟨_,rfl,a,_,_,_,rfl,rfl,SqL.of ha,rfl,?_⟩;refine⟨_,_,rfl,rfl,?_⟩;refine⟨_,rfl,a,_,2,2,rfl,rfl,ha,rfl,?_⟩;have h1:(upd H1 a (.lst [.ref g,Vn x,.int ((t:Int)+1)])) a=some (.lst [.ref g,Vn x,Vn (t+1)]):=yab;have h2:(upd H1 a (.lst [.ref g,Vn x,.int ((t:Int)+1)])) g=some (.lst []):=by rw[zah (Ne.symm nag)];exact hg
   have h3:zaq a g H (upd H1 a (.lst [.ref g,Vn x,.int ((t:Int)+1)])):=λb o n1 n2 e=>by rw[zah n1];exact sm b o n1 n2 e
   change tSeq _ _ _ _ (upd H1 a (.lst [.ref g,Vn x,.int ((t:Int)+1)]));generalize upd H1 a (.lst [.ref g,Vn x,.int ((t:Int)+1)])=H2 at h1 h2 h3 ⊢;refine⟨_,rfl,a,_,_,_,rfl,rfl,SqL.of h1,rfl,?_⟩;refine⟨szl 7,λl hl=>?_⟩;have nla:a≠l:=zaf h1 hl;have nlg:g≠l:=zaf h2 hl;refine⟨_,rfl,_,_,rfl,rfl,by show(0:Int)<7;decide,?_⟩;obtain⟨k,hk,ek⟩:=modn (x:=((t+1:Nat):Int)) (n:=7) ();have hprime:∃pr:Nat,61<pr/\atI [V.int 2147483629,.int 2147483587,.int 2147483579,.int 2147483563,.int 2147483549,.int 2147483543,.int 2147483497] (k:Int)=some (Vn pr):=by
    have:k=0\/k=1\/k=2\/k=3\/k=4\/k=5\/k=6:=by omega
    rcases this with rfl|rfl|rfl|rfl|rfl|rfl|rfl
    ·exact⟨2147483629,#[],rfl⟩
    ·exact⟨2147483587,#[],rfl⟩
    ·exact⟨2147483579,#[],rfl⟩
    ·exact⟨2147483563,#[],rfl⟩
    ·exact⟨2147483549,#[],rfl⟩
    ·exact⟨2147483543,#[],rfl⟩
    ·exact⟨2147483497,#[],rfl⟩
   obtain⟨pr,hpr,epr⟩:=hprime;have ek':((t+1:Nat):Int)%(7:Int)=(k:Int):=by have:=V.int.inj ek;exact this
   refine⟨l,_,k,Vn pr,rfl,ek,SqL.of yab,epr,?_⟩;have h1':(upd H2 l (.lst [V.int 2147483629,.int 2147483587,.int 2147483579,.int 2147483563,.int 2147483549,.int 2147483543,.int 2147483497])) a=some (.lst [.ref g,Vn x,Vn (t+1)]):=by rw[zah nla];exact h1
   have h2':(upd H2 l (.lst [V.int 2147483629,.int 2147483587,.int 2147483579,.int 2147483563,.int 2147483549,.int 2147483543,.int 2147483497])) g=some (.lst []):=by rw[zah nlg];exact h2
   have h3':zaq a g H (upd H2 l (.lst [V.int 2147483629,.int 2147483587,.int 2147483579,.int 2147483563,.int 2147483549,.int 2147483543,.int 2147483497])):=h3.trans (Same.x (zac hl _));change tSeq _ _ _ _ (upd H2 l (.lst [V.int 2147483629,.int 2147483587,.int 2147483579,.int 2147483563,.int 2147483549,.int 2147483543,.int 2147483497]));generalize upd H2 l (.lst [V.int 2147483629,.int 2147483587,.int 2147483579,.int 2147483563,.int 2147483549,.int 2147483543,.int 2147483497])=H3 at h1' h2' h3' ⊢;refine⟨_,rfl,a,_,_,_,rfl,rfl,SqL.of h1',rfl,?_⟩;refine⟨_,rfl,_,_,rfl,rfl,.inl ⟨#[],#[]⟩,?_⟩;refine⟨_,_,rfl,rfl,?_⟩;refine⟨_,_,rfl,rfl,by show(0:Int)<2147483647;decide,?_⟩;obtain⟨on,hon,eon⟩:=modn (x:=(x:Int)+65537*((t+1:Nat):Int)) (n:=2147483647) #[];dsimp only[yaw];rw[show V.int (((x:Int)+65537*((t+1:Nat):Int))%2147483647)=Vn on from eon];refine⟨_,rfl,_,_,rfl,rfl,⟨#[],#[],by show(on:Int).natAbs<2^64;omega⟩,?_⟩;refine⟨_,_,rfl,rfl,by show(0:Int)<2147483647;decide,?_⟩;obtain⟨o5,ho5,eo5⟩:=modn (x:=(on:Int)^(5:Int).toNat) (n:=2147483647) #[];refine⟨_,rfl,_,_,rfl,rfl,.inl ⟨#[],#[]⟩,?_⟩;refine⟨_,_,rfl,rfl,?_⟩;have b5:(on:Int)^(5:Int).toNat%2147483647=(o5:Int):=V.int.inj eo5;refine⟨_,_,rfl,rfl,.inl ⟨by rw[b5];omega,by rw[b5];omega⟩,?_⟩;refine⟨_,rfl,_,rfl,a,_,_,_,rfl,rfl,SqL.of h1',rfl,?_⟩;refine⟨_,_,rfl,rfl,⟨by show(0:Int)<2147483647;decide,by show(2147483647:Int)<2^64;decide⟩,?_⟩;refine⟨_,_,rfl,rfl,?_⟩;refine⟨_,rfl,_,_,rfl,rfl,by show(0:Int)<(pr:Int);omega,?_⟩;refine⟨_,_,rfl,rfl,⟨by show(0:Int)<61;decide,by show(61:Int)<2^64;decide⟩,?_⟩;refine⟨_,rfl,_,_,rfl,rfl,by show(0:Int)<(n:Int);omega,?_⟩;obtain⟨r,hr',er⟩:=modn (x:=((on:Int)^(5:Int).toNat%2147483647*(2*((t+1:Nat):Int)+1)+(x:Int)/2147483647)%(pr:Int)/61) hn;dsimp only;rw[er];exact q r H3 hr' ⟨[],x,t+1,h1',h2'⟩ h3'
  ·intro D' hrt _ _ hD;refine⟨_,rfl,a,_,_,_,rfl,rfl,SqL.of ha,rfl,szl 0,λl hl=>?_⟩;have nla:a≠l:=zaf ha hl;have nlg:g≠l:=zaf hg hl;have hg1:(upd H' l (.lst [])) g=some (.lst (ns.map Vn)):=by rw[zah nlg];exact hg
   have ha1:(upd H' l (.lst [])) a=some (.lst [.ref g,Vn x,Vn t]):=by rw[zah nla];exact ha
   have sm1:zaq a g H (upd H' l (.lst [])):=sm.trans (Same.x (zac hl _));refine⟨g,l,_,rfl,rfl,SqL.of hg1,SqL.of yab,_,rfl,?_⟩;refine ite2 (λc=>?_) (λc=>?_)
   ·cases ns with
    |nil=>exact absurd c (by simp)
    |cons d ns=>
     refine⟨_,rfl,a,_,_,_,rfl,rfl,SqL.of ha1,rfl,?_⟩;refine⟨g,_,_,_,rfl,rfl,SqL.of hg1,zdD _ _,?_⟩;refine⟨_,rfl,_,_,rfl,rfl,by show(0:Int)<(n:Int);omega,?_⟩;refine⟨_,rfl,a,_,_,_,rfl,rfl,SqL.of ha1,rfl,?_⟩;refine⟨g,_,_,_,rfl,rfl,SqL.of hg1,zdD _ _,?_⟩;refine⟨_,rfl,_,_,rfl,rfl,⟨by show(0:Int)<(n:Int);omega,by show(n:Int)<2^1000;omega⟩,?_⟩;refine⟨_,rfl,a,_,_,_,rfl,rfl,SqL.of ha1,rfl,?_⟩;refine⟨g,_,0,0,rfl,rfl,hg1,ze6 (by simp),?_⟩;refine⟨_,rfl,?_⟩;rw[hrt];refine q (d%n) _ (xAC _ hn) ⟨(d/n)::ns,x,t,by rw[zah nag];exact ha1,yab⟩ λb o n1 n2 e=>by rw[zah n2];exact sm1 b o n1 n2 e
   ·cases ns with
    |nil=>exact hD _ _ ⟨rfl,rfl,ha1,hg1,sm1⟩
    |cons d ns=>exact absurd (by simp) c
 ·intro D' _ _ _ hD;refine yaO (λσ H'=>σ=[some (.ref a),some (Vn n),none,none,none,none,none]/\Pu H' a g/\zaq a g H H') (λ_ H'=>ydK H' g) ⟨rfl,hP,zaq.refl⟩ ?_;rintro σ H' ⟨rfl,⟨ns,x,t,ha,hg⟩,sm⟩;refine⟨_,rfl,a,_,_,_,rfl,rfl,SqL.of ha,rfl,szl 0,λl hl=>?_⟩;have nla:a≠l:=zaf ha hl;have nlg:g≠l:=zaf hg hl;have hg1:(upd H' l (.lst [])) g=some (.lst (ns.map Vn)):=by rw[zah nlg];exact hg
  have ha1:(upd H' l (.lst [])) a=some (.lst [.ref g,Vn x,Vn t]):=by rw[zah nla];exact ha
  have sm1:zaq a g H (upd H' l (.lst [])):=sm.trans (Same.x (zac hl _));refine⟨g,l,_,rfl,rfl,SqL.of hg1,SqL.of yab,_,rfl,?_⟩;refine ite2 (λc=>?_) (λc=>?_)
  ·cases ns with
   |nil=>exact absurd c (by simp)
   |cons d ns=>
    refine⟨_,rfl,a,_,_,_,rfl,rfl,SqL.of ha1,rfl,?_⟩;refine⟨g,_,_,_,rfl,rfl,SqL.of hg1,zdD _ _,?_⟩;refine⟨rfl,_,rfl,?_⟩;refine ite2 (λc=>?_) (λc=>?_)
    ·refine⟨λσ' H''=>σ'=[some (.ref a),some (Vn n),none,none,none,none,none]/\H''=upd (upd H' l (.lst [])) g (.lst (ns.map Vn)),?_,?_⟩
     ·rintro σ' H'' ⟨rfl,rfl⟩;refine⟨_,?_,rfl,rfl,⟨ns,x,t,by rw[zah nag];exact ha1,yab⟩,λb o n1 n2 e=>by rw[zah n2];exact sm1 b o n1 n2 e⟩;rw[zbV hg,zbV (xs:=ns.map Vn) yab];simp
     ·refine⟨_,rfl,a,_,_,_,rfl,rfl,SqL.of ha1,rfl,.inl ⟨rfl,_,SqL.of hg1⟩,?_⟩;exact⟨g,_,0,0,Vn d,rfl,rfl,hg1,#[],#[],(zew (ze6 (by simp))).1,rfl,rfl,rfl⟩
    ·exact hD _ _ ⟨rfl,⟨d::ns,x,t,ha1,hg1⟩,sm1⟩
  ·refine ite2 (λc2=>absurd c2 #[]) (λ_=>?_);exact hD _ _ ⟨rfl,⟨ns,x,t,ha1,hg1⟩,sm1⟩
end
end My
end
section
-- text: P3
namespace My
open PySem L2 Dg
local macro_rules | `(tactic| walk_at "rd") => `(tactic| repeat (first | refine ⟨_, rfl, ?_⟩ | refine ⟨_, _, rfl, rfl, ?_⟩))
noncomputable def sumN:Nat->(Nat->Nat)->Nat
 |0,_=>0
 |n+1,g=>sumN n g+g n
theorem ydg:∀(n:Nat) (g:Nat->Nat),sumN (n+1) g=g 0+sumN n λj=>g (j+1)
 |0,g=>by simp[sumN]
 |n+1,g=>by rw[sumN,ydg n g,sumN];omega
theorem zfv{n:Nat}{g h:Nat->Nat}(e:∀j,j<n->g j=h j):sumN n g=sumN n h:=by
 induction n with
 |zero=>rfl
 |succ n ih=>rw[sumN,sumN,ih λj hj=>e j (),e n ()]
noncomputable def shN(j:Nat)(y:Nat->Nat)(i:Nat):Nat:=if j<=i then y (i-j) else 0
theorem ydP:∀(k:Nat) (f y:Nat->Nat) (i:Nat),ydD k f y i=sumN k λj=>f j*shN j y i
 |0,_,_,_=>rfl
 |k+1,f,y,i=>by
  rw[ydg];show f 0*y i+yaL (ydD k (λj=>f (j+1)) y) i=f 0*shN 0 y i+_;congr 1;unfold yaL;by_cases h:i=0
  ·rw[if_pos h];subst h;have:∀n,sumN n (λj=>f (j+1)*shN (j+1) y 0)=0:=λn=>by
    induction n with
    |zero=>rfl
    |succ n ih=>rw[sumN,ih];unfold shN;rw[if_neg ()];simp
   exact(this k).symm
  ·rw[if_neg h,ydP k];refine zfv λj _=>?_
   congr 1;unfold shN;by_cases h2:j+1<=i
   ·rw[if_pos h2,if_pos ()];congr 1;omega
   ·rw[if_neg h2,if_neg ()]
noncomputable def rowL(p n:Nat)(c:Nat->Nat):List V:=(List.range n).map λi=>Vn (c i%p)
theorem ybU(p n:Nat)(c:Nat->Nat):(rowL p n c).length=n:=by simp[rowL]
theorem zdB{p n:Nat}(c:Nat->Nat){i:Nat}(h:i<n):(rowL p n c)[i]?=some (Vn (c i%p)):=by
 unfold rowL;rw[xA9,xB2 h];rfl
theorem zeH{p n:Nat}(c:Nat->Nat){i:Nat}{j:Int}(h:i<n)(e:j=(i:Int)):atI (rowL p n c) j=some (Vn (c i%p)):=by
 subst e;exact yaZ (zdB c h)
theorem zbu{p n:Nat}{c c':Nat->Nat}(h:∀i,i<n->c i%p=c' i%p):rowL p n c=rowL p n c':=by
 unfold rowL;refine xAE λi hi=>?_
 rw[h i (xAu.mp hi)]
theorem ygB{p n:Nat}(c:Nat->Nat){s v:Nat}(h:s<n):(rowL p n c).set s (Vn (v%p))=rowL p n λi=>if i=s then v else c i:=by
 refine List.ext_getElem? λi=>?_
 by_cases hi:i<n
 ·rw[zdB _ hi,List.getElem?_set];by_cases e:s=i
  ·subst e;rw[if_pos rfl,if_pos (by rw[ybU];exact hi),if_pos rfl]
  ·rw[if_neg e,zdB _ hi,if_neg (Ne.symm e)]
 ·rw[List.getElem?_eq_none (by rw[List.length_set,ybU];omega),List.getElem?_eq_none (by rw[ybU];omega)]
theorem yf6{p n:Nat}{c:Nat->Nat}{s v:Nat}(h:s<n){c':Nat->Nat}(hc:∀i,i<n->c' i%p=(if i=s then c s%p+v else c i)%p):(rowL p n c).set s (Vn ((c s%p+v)%p))=rowL p n c' :=
 (ygB c h).trans (zbu λi hi=>(hc i hi).symm)
theorem zfM{n s:Nat}{j:Int}(h:s<n)(e:j=(s:Int)):ixN n j=some s:=by
 subst e;unfold ixN;rw[if_pos (),if_pos ()];simp
theorem ygX(p k:Nat)(hp:0<p):(List.replicate k [V.int 0]).flatten=rowL p k λ_=>0:=by
 induction k with
 |zero=>rfl
 |succ k ih=>
  rw[List.replicate_succ',List.flatten_append,ih];unfold rowL;rw[xBa,xA8];simp
section
variable {P:Program} {w:World} {K:PySem.W.Frag} {mg:Str->Option Value} {base:Heap} {f:Addr} {fd:FuncData}
noncomputable def ycg(K:PySem.W.Frag):Sp:=λvs H Q _=>∃(a:Addr) (p m t x y:Nat),vs=[.ref a,.int x,.int y]/\Fld K H a p m t/\2<=p/\1<=m/\p^m<=64/\t<p^m/\x<p^m/\y<p^m/\
 ∀(r:Nat) H',Same H H'->r<p^m->(∀i,i<m->dg p i r=tn m (λi=>dg p i t) m (λi=>dg p i x) (λi=>dg p i y) i%p)->Q (.int r) H'
theorem ydu{p m x i:Nat}(h:i<m):(digL p m x)[i]?=some (Vn (dg p i x)):=by
 unfold digL;rw[xA9,xB2 h];rfl
theorem yfW{l:Addr}{H H':Hp}{o:HO}(h:zaq l l H H'):zaq l l H (upd H' l o):=λb u n1 n2 e=>by rw[zah n1];exact h b u n1 n2 e
theorem ygk{l p:Addr}{H H':Hp}{o:HO}(h:zaq l l H H')(hp:H' p=none):zaq l l H (upd H' p o):=h.trans (Same.x (zac hp o))
theorem ydE{l:Addr}{H H':Hp}(h:zaq l l H H')(hl:H l=none):Same H H':=λb o e=>h b o (zaf e hl) (zaf e hl) e
theorem yak:yah ["_law_field_here","_law_one","_law_other","_law_p","_law_m","_law_top","_law_row_here","_law_j","_law_digit","_law_k","_law_by","_law_place","_law_at"] ["_law_field_here","_law_one","_law_other"] (zae ybp):=⟨rfl,rfl,rfl,∅,rfl,∅,∅⟩
theorem zfh(B:Bl mg)(xBy:Has P w K mg base 1 "_law_digits" ["_law_field_here","_law_thing"] (zdR K))(xBC:Has P w K mg base 1 "_law_number" ["_law_field_here","_law_digits_here"] (zeb K))(F:Fun K "_law_product" "_law_product" ybp f fd):FnOk P w K mg base CX0 2 f fd ["_law_field_here","_law_one","_law_other"] (ycg K):=by
 refine F.ok yak (λvs H Q E h=>?_) (λcdv A outer s H vs Q E hr h=>?_)
 ·obtain⟨a,p,m,t,x,y,rfl,_⟩:=h;rfl
 obtain⟨a,p,m,t,x,y,rfl,hF,hp,hm,hpm,ht,hx,hy,q⟩:=h;have hp2:=p_le hp hm hpm;have hm6:=m_le hp hpm;refine⟨_,(@yaa _ _ _ _ _ (@za5 _ _ _ _ _ _ (pv 0) (@zaX _ _ _ _ _ _ rfl (@yag _ _ _ _ _ (@yae _ _ 3 _ yak.nd rfl (Or.inl rfl) (by trivial)) (@yag _ _ _ _ _ (@yae _ _ 4 _ yak.nd rfl (Or.inl rfl) (by trivial)) (@yag _ _ _ _ _ (@yae _ _ 5 _ yak.nd rfl (Or.inl rfl) (by trivial)) yaE ⋯) ⋯) ⋯) ⋯ ⋯) ⋯ ⋯ ⋯) (@yaa _ _ _ _ _ (@yaf _ _ 6 _ _ _ _ yak.nd rfl (Or.inl rfl) (@zag _ _ _ _ _ _ _ _ zdV (@yaI _ _ _ _ (@zaa _ _ _ _ _ yac zab ⋯)) (@zag _ _ _ _ _ _ _ _ yaW (@zag _ _ _ _ _ _ _ _ yaR yac (pv 4)) yac)) ⋯ (by trivial)) (@yaa _ _ _ _ _ (@zaF _ _ _ _ _ _ _ _ xAi rfl (@ybz _ _ _ _ _ _ _ _ rfl (B "enumerate" #[]) (@zaa _ _ _ _ _ (@zad _ _ _ _ _ _ _ _ _ _ _ xBy hr #[] rfl (@zaa _ _ _ _ _ (pv 0) (@zaa _ _ _ _ _ (pv 1) zab ⋯) ⋯) #[] ⋯ ⋯) zab ⋯) ⋯) (@zaX _ _ _ _ _ _ rfl (@yag _ _ _ _ _ (@yae _ _ 7 _ yak.nd rfl (Or.inl rfl) (by trivial)) (@yag _ _ _ _ _ (@yae _ _ 8 _ yak.nd rfl (Or.inl rfl) (by trivial)) yaE ⋯) ⋯) ⋯ ⋯) (@yad _ _ _ (@zaF _ _ _ _ _ _ _ _ xAi rfl (@ybz _ _ _ _ _ _ _ _ rfl (B "enumerate" #[]) (@zaa _ _ _ _ _ (@zad _ _ _ _ _ _ _ _ _ _ _ xBy hr #[] rfl (@zaa _ _ _ _ _ (pv 0) (@zaa _ _ _ _ _ (pv 2) zab ⋯) ⋯) #[] ⋯ ⋯) zab ⋯) ⋯) (@zaX _ _ _ _ _ _ rfl (@yag _ _ _ _ _ (@yae _ _ 9 _ yak.nd rfl (Or.inl rfl) (by trivial)) (@yag _ _ _ _ _ (@yae _ _ 10 _ yak.nd rfl (Or.inl rfl) (by trivial)) yaE ⋯) ⋯) ⋯ ⋯) (@yad _ _ _ (@za5 _ _ _ _ _ _ (@zag _ _ _ _ _ _ _ _ zaC (@zag _ _ _ _ _ _ _ _ yav (@zao _ _ _ _ _ _ _ yan (pv 6) (@zag _ _ _ _ _ _ _ _ yav (pv 7) (pv 9)) (λ_ _=>rfl)) (@zag _ _ _ _ _ _ _ _ yaR (pv 8) (pv 10))) (pv 3)) (@zct _ _ _ _ _ _ _ (pv 6) (@zag _ _ _ _ _ _ _ _ yav (pv 7) (pv 9)) ybm (by intro _;rfl)) ⋯ ⋯ ⋯)) (by intro _;rfl))) (by intro _;rfl)) (@yaa _ _ _ _ _ (@zaF _ _ _ _ _ _ _ _ xAi rfl (@yhI _ _ _ _ _ _ _ _ rfl (B "range" #[]) (@zaa _ _ _ _ _ (@zag _ _ _ _ _ _ _ _ yaW (@zag _ _ _ _ _ _ _ _ yaR yac (pv 4)) yac) (@zaa _ _ _ _ _ (@zag _ _ _ _ _ _ _ _ yaW (pv 4) yac) (@zaa _ _ _ _ _ (@yet _ _ _ _ _ _ ycX yac) zab ⋯) ⋯) ⋯) ⋯ ⋯) (@yae _ _ 11 _ yak.nd rfl (Or.inl rfl) (by trivial)) (@yad _ _ _ (@zaF _ _ _ _ _ _ _ _ xAi rfl (@ybz _ _ _ _ _ _ _ _ rfl (B "enumerate" #[]) (@zaa _ _ _ _ _ (@zad _ _ _ _ _ _ _ _ _ _ _ xBy hr #[] rfl (@zaa _ _ _ _ _ (pv 0) (@zaa _ _ _ _ _ (pv 5) zab ⋯) ⋯) #[] ⋯ ⋯) zab ⋯) ⋯) (@zaX _ _ _ _ _ _ rfl (@yag _ _ _ _ _ (@yae _ _ 9 _ yak.nd rfl (Or.inl rfl) (by trivial)) (@yag _ _ _ _ _ (@yae _ _ 8 _ yak.nd rfl (Or.inl rfl) (by trivial)) yaE ⋯) ⋯) ⋯ ⋯) (@yaa _ _ _ _ _ (@yaf _ _ 12 _ _ _ _ yak.nd rfl (Or.inl rfl) (@zag _ _ _ _ _ _ _ _ yav (@zag _ _ _ _ _ _ _ _ yaW (pv 11) (pv 4)) (pv 9)) ⋯ (by trivial)) (@yad _ _ _ (@za5 _ _ _ _ _ _ (@zag _ _ _ _ _ _ _ _ zaC (@zag _ _ _ _ _ _ _ _ yav (@zao _ _ _ _ _ _ _ yan (pv 6) (pv 12) (λ_ _=>rfl)) (@zag _ _ _ _ _ _ _ _ yaR (@zao _ _ _ _ _ _ _ yan (pv 6) (pv 11) (λ_ _=>rfl)) (pv 8))) (pv 3)) (@zct _ _ _ _ _ _ _ (pv 6) (pv 12) ybm (by intro _;rfl)) ⋯ ⋯ ⋯))) (by intro _;rfl))) (by intro _;rfl)) (@yad _ _ _ (@yai _ _ _ _ (@zad _ _ _ _ _ _ _ _ _ _ _ xBC hr #[] rfl (@zaa _ _ _ _ _ (pv 0) (@zaa _ _ _ _ _ (@zbT _ _ _ _ _ _ _ _ _ _ yeI (pv 6) zch (@zck _ _ _ (pv 4))) zab ⋯) ⋯) #[] ⋯ ⋯))))))),?_⟩
 refine⟨_,rfl,a,_,rfl,hF,rfl,_,_,rfl,_,_,rfl,_,_,rfl,rfl,?_⟩;refine⟨szl 1,λl0 hl0=>?_⟩;refine⟨_,rfl,_,_,rfl,rfl,.inl ⟨#[],#[]⟩,?_⟩;refine⟨_,_,rfl,rfl,?_⟩;have e21:(2*(m:Int)-1).toNat=2*m-1:=by omega
 refine⟨l0,_,_,rfl,rfl,yab,by show -(2^63)<=2*(m:Int)-1;omega,by show 2*(m:Int)-1<2^63;omega,?_,λl hl=>?_⟩
 ·show 1*(2*(m:Int)-1).toNat<=sizeLine;rw[e21];exact szl _
 dsimp only;rw[e21,ygX p _ ()];have hlH:H l=none:=(zac hl0 (.lst [.int 0])).free hl;refine zbf (λσ H'=>∃s7 s8 s9 s10 s11 s12,σ=[some (.ref a),some (Vn x),some (Vn y),some (Vn p),some (Vn m),some (Vn t),some (.ref l),s7,s8,s9,s10,s11,s12]/\zaq l l H H'/\H' l=some (.lst (rowL p (2*m-1) (ydD m (λi=>dg p i x) λi=>dg p i y)))) ?_ ?_
 ·rintro σ H' ⟨s7,s8,s9,s10,s11,s12,rfl,sx,hrow⟩;refine zbf (λσ H'=>∃s7 s8 s9 s10 s11 s12,σ=[some (.ref a),some (Vn x),some (Vn y),some (Vn p),some (Vn m),some (Vn t),some (.ref l),s7,s8,s9,s10,s11,s12]/\zaq l l H H'/\∃c:Nat->Nat,H' l=some (.lst (rowL p (2*m-1) c))/\∀i,i<m->c i=tn m (λi=>dg p i t) m (λi=>dg p i x) (λi=>dg p i y) i) ?_ ?_
  ·rintro σ H' ⟨s7,s8,s9,s10,s11,s12,rfl,sx,c,hrow,hc⟩;refine⟨_,rfl,_,rfl,_,rfl,_,rfl,l,_,rfl,SqL.of hrow,λl2 hl2=>?_⟩;have sm2:Same H (upd H' l2 (.lst (cutV (rowL p (2*m-1) c) none (some (m:Int))))):=(ydE sx hlH).trans (zac hl2 _);refine⟨a,l2,p,m,t,(List.range m).map λi=>c i%p,rfl,Same.tup sm2 hF,hp,hp2,?_,λH3 s3=>?_⟩
   ·refine SqL.of ?_;rw[yab];congr 2;unfold cutV;rw[HT.sIx_none,show HT.sIx (rowL p (2*m-1) c).length (rowL p (2*m-1) c).length (some (m:Int))=min m (rowL p (2*m-1) c).length from HT.sIx_nat _ _ m,ybU,List.drop_zero,show min m (2*m-1)-0=m by omega];unfold rowL;rw[<-List.map_take,List.take_range,List.map_map,show min m (2*m-1)=m by omega];rfl
   ·have hds:∀d∈(List.range m).map (λi=>c i%p),d<p:=λd hd=>by
     obtain⟨i,_,rfl⟩:=xAe.mp hd;exact xAC _ ()
    have hg:∀i,((List.range m).map λi=>c i%p).getD i 0=if i<m then c i%p else 0:=λi=>by
     by_cases hi:i<m
     ·rw[if_pos hi,List.getD,xA9,xB2 hi];rfl
     ·rw[if_neg hi,List.getD,List.getElem?_eq_none (by simpa using hi)];rfl
    refine q _ _ (sm2.trans s3) (yco hp λi hi=>?_) λi hi=>?_
    ·rw[zgk hp _ hds,hg,if_neg ()]
    ·rw[zgk hp _ hds,hg,if_pos hi,hc i hi]
  ·intro D' _ _ _ hD;refine⟨_,rfl,_,_,rfl,rfl,.inl ⟨#[],#[]⟩,?_⟩;refine⟨_,_,rfl,rfl,?_⟩;refine⟨_,rfl,_,_,rfl,rfl,?_⟩;refine⟨_,rfl,?_⟩;refine⟨2*(m:Int)-2,(m:Int)-1,rfl,⟨(),(),(),()⟩,?_⟩;refine yaK zdY (λi σ H'=>∃s7 s8 s9 s10 s11 s12,σ=[some (.ref a),some (Vn x),some (Vn y),some (Vn p),some (Vn m),some (Vn t),some (.ref l),s7,s8,s9,s10,s11,s12]/\zaq l l H H'/\∃c:Nat->Nat,H' l=some (.lst (rowL p (2*m-1) c))/\
    redF m (λi=>dg p i t) (m-1-i) c=redF m (λi=>dg p i t) (m-1) (ydD m (λi=>dg p i x) λi=>dg p i y)) ⟨s7,s8,s9,s10,s11,s12,rfl,sx,_,hrow,rfl⟩ (λ_ _ _ _ _=>trivial) ?_ ?_
   ·rintro i v σ H' H'' hi ⟨s7,s8,s9,s10,s11,s12,rfl,sx,c,hrow,hred⟩ ⟨rfl,rfl⟩;obtain⟨j,hj⟩:∃j,m-1-i=j+1:=⟨m-1-i-1,()⟩
    have eq:V.int (2*(m:Int)-2-(i:Int))=Vn (m+j):=by show V.int _=V.int _;congr 1;omega
    have hq:m+j<2*m-1:=by omega
    dsimp only[yaw];rw[eq];refine⟨_,rfl,_,rfl,a,p,m,t,t,rfl,Same.tup (ydE sx hlH) hF,hp,hp2,(),λb2 H2 hb2' s2 e2=>?_⟩;have nb2:b2≠l:=λe=>by rw[e,hrow]at hb2';cases hb2'
    refine⟨false,b2,rfl,⟨_,SqL.of e2⟩,?_⟩;refine yaK (zaW (K:=K) (b:=false) (l:=b2) (xs:=digL p m t)) (λk σ H'=>∃s7 s8 s9 s10 s12,σ=[some (.ref a),some (Vn x),some (Vn y),some (Vn p),some (Vn m),some (Vn t),some (.ref l),s7,s8,s9,s10,some (Vn (m+j)),s12]/\zaq l l H H'/\H' b2=some (.lst (digL p m t))/\
     H' l=some (.lst (rowL p (2*m-1) λi=>c i+if j<=i/\i<j+k then c (m+j)*dg p (i-j) t else 0))) ⟨s7,s8,s9,s10,s12,rfl,sx.trans (Same.x s2),e2,?_⟩ ?_ ?_ ?_
    ·rw[s2 _ _ hrow];congr 2;refine zbu λi _=>?_
     rw[if_neg ()];rfl
    ·rintro i σ H' _ ⟨s7,s8,s9,s10,s12,rfl,_,h,_⟩;exact SqL.of h
    ·rintro k v σ H' H'' hk ⟨s7,s8,s9,s10,s12,rfl,sx,hc,hrow⟩ ⟨T,u,rfl,eu,hT,rfl⟩;rw[zbx]at hk;rw[ydu hk]at eu;cases eu;refine⟨T,_,rfl,SqT.of yab,rfl,_,_,rfl,_,_,rfl,rfl,?_⟩;have sx3:zaq l l H (upd H' T (.tup [.int k,Vn (dg p k t)])):=ygk sx hT;have hc3:(upd H' T (.tup [.int k,Vn (dg p k t)])) b2=some (.lst (digL p m t)):=by rw[zah (zaf hc hT)];exact hc
     have hr3:=(zah (o:=.tup [.int k,Vn (dg p k t)]) (zaf hrow hT)).trans hrow;generalize upd H' T (.tup [.int k,Vn (dg p k t)])=G at sx3 hc3 hr3 ⊢;have hjk:j+k<2*m-1:=by omega
     have hmp:∀z,z%p<p:=λz=>xAC _ ()
     refine⟨_,rfl,_,rfl,_,_,rfl,rfl,?_⟩;refine⟨_,rfl,_,_,rfl,rfl,?_⟩;have eat:V.int (((m+j:Nat):Int)-(m:Int)+((k:Nat):Int))=Vn (j+k):=by show V.int _=V.int _;congr 1;omega
     dsimp only[yaw];rw[eat];refine⟨_,rfl,_,rfl,l,_,_,_,rfl,rfl,SqL.of hr3,zeH _ hjk rfl,?_⟩;refine⟨_,rfl,_,rfl,l,_,_,_,rfl,rfl,SqL.of hr3,zeH _ hq rfl,?_⟩;have hmq:=hmp (c (m+j)+if j<=m+j/\m+j<j+k then c (m+j)*dg p (m+j-j) t else 0);refine⟨_,rfl,_,_,rfl,rfl,.inl ⟨(),()⟩,?_⟩;refine⟨_,_,rfl,rfl,?_⟩;refine⟨_,rfl,_,_,rfl,rfl,by show(0:Int)<(p:Int);omega,?_⟩;refine⟨_,rfl,_,rfl,?_⟩;refine⟨l,_,_,j+k,rfl,rfl,hr3,zfM (by rw[ybU];exact hjk) rfl,?_⟩;refine⟨s7,_,_,s10,_,rfl,yfW sx3,by rw[zah nb2];exact hc3,?_⟩;rw[yab];congr 2;refine yf6 (v:=(c (m+j)+if j<=m+j/\m+j<j+k then c (m+j)*dg p (m+j-j) t else 0)%p*dg p k t) hjk λi hi=>?_
     by_cases e:i=j+k
     ·subst e;rw[if_pos rfl,if_pos (),if_neg (),if_neg (),Nat.add_zero,Nat.add_zero,show j+k-j=k by omega,Nat.mod_add_mod];exact ybC rfl (zdL (Nat.mod_mod _ _).symm rfl)
     ·rw[if_neg e];congr 2;by_cases h2:j<=i/\i<j+k
      ·rw[if_pos h2,if_pos ()]
      ·rw[if_neg h2,if_neg ()]
    ·rintro σ H' ⟨s7,s8,s9,s10,s12,rfl,sx,hc,hrow⟩;refine⟨s7,s8,s9,s10,_,s12,rfl,sx,_,hrow,?_⟩;rw[<-hred,hj,show m-1-(i+1)=j by omega];show _=redF m (λi=>dg p i t) j (zby m (λi=>dg p i t) (m+j) c);congr 1
     funext z
     unfold zby;rw[zbx,show m+j-m=j by omega];congr 1;by_cases h2:j<=z/\z<j+m
     ·rw[if_pos h2,if_pos ()]
     ·rw[if_neg h2,if_neg ()]
   ·rintro σ H' ⟨s7,s8,s9,s10,s11,s12,rfl,sx,c,hrow,hred⟩;refine hD _ _ ⟨s7,s8,s9,s10,s11,s12,rfl,sx,c,hrow,λi hi=>?_⟩;rw[show m-1-(2*(m:Int)-2-((m:Int)-1)).toNat=0 by omega]at hred;have e:=congrFun hred i;have e2:=ze1 (t:=λi=>dg p i t) hm (m-1) (λi=>dg p i x) (λi=>dg p i y) (λz hz=>yas hp hy hz) i hi;rw[show m-1+1=m by omega]at e2;exact e.trans e2
 ·intro D' _ _ _ hD;refine⟨_,rfl,_,rfl,a,p,m,t,x,rfl,Same.tup ((zac hl0 _).trans (zac hl _)) hF,hp,hp2,(),λb1 H1 hb1 s1 e1=>?_⟩;have hl1:H1 l=some (.lst (rowL p (2*m-1) λ_=>0)):=s1 _ _ yab;have nb1:b1≠l:=λe=>by rw[e,yab]at hb1;cases hb1
  have sx1:zaq l l H H1:=Same.x (((zac hl0 _).trans (zac hl _)).trans s1);refine⟨false,b1,rfl,⟨_,SqL.of e1⟩,?_⟩;refine yaK (zaW (K:=K) (b:=false) (l:=b1) (xs:=digL p m x)) (λj σ H'=>∃s7 s8 s9 s10 s11 s12,σ=[some (.ref a),some (Vn x),some (Vn y),some (Vn p),some (Vn m),some (Vn t),some (.ref l),s7,s8,s9,s10,s11,s12]/\zaq l l H H'/\H' b1=some (.lst (digL p m x))/\
   H' l=some (.lst (rowL p (2*m-1) λi=>sumN j λj'=>dg p j' x*shN j' (λi=>dg p i y) i))) ⟨none,none,none,none,none,none,rfl,sx1,e1,hl1⟩ ?_ ?_ ?_
  ·rintro i σ H' _ ⟨s7,s8,s9,s10,s11,s12,rfl,_,h,_⟩;exact SqL.of h
  ·rintro j v σ H' H'' hj ⟨s7,s8,s9,s10,s11,s12,rfl,sx,hb,hrow⟩ ⟨T,u,rfl,eu,hT,rfl⟩;rw[zbx]at hj;rw[ydu hj]at eu;cases eu;refine⟨T,_,rfl,SqT.of yab,rfl,_,_,rfl,_,_,rfl,rfl,?_⟩;have sx2:zaq l l H (upd H' T (.tup [.int j,Vn (dg p j x)])):=ygk sx hT;have hb2:(upd H' T (.tup [.int j,Vn (dg p j x)])) b1=some (.lst (digL p m x)):=by rw[zah (zaf hb hT)];exact hb
   have hr2:(upd H' T (.tup [.int j,Vn (dg p j x)])) l=some (.lst (rowL p (2*m-1) λi=>sumN j λj'=>dg p j' x*shN j' (λi=>dg p i y) i)):=by rw[zah (zaf hrow hT)];exact hrow
   generalize upd H' T (.tup [.int j,Vn (dg p j x)])=G at sx2 hb2 hr2 ⊢;refine⟨_,rfl,_,rfl,a,p,m,t,y,rfl,Same.tup (ydE sx2 hlH) hF,hp,hp2,(),λb2 H2 hb2' s2 e2=>?_⟩;have nb2:b2≠l:=λe=>by rw[e,hr2]at hb2';cases hb2'
   refine⟨false,b2,rfl,⟨_,SqL.of e2⟩,?_⟩;refine yaK (zaW (K:=K) (b:=false) (l:=b2) (xs:=digL p m y)) (λk σ H'=>∃s9 s10 s11 s12,σ=[some (.ref a),some (Vn x),some (Vn y),some (Vn p),some (Vn m),some (Vn t),some (.ref l),some (Vn j),some (Vn (dg p j x)),s9,s10,s11,s12]/\zaq l l H H'/\H' b1=some (.lst (digL p m x))/\H' b2=some (.lst (digL p m y))/\
    H' l=some (.lst (rowL p (2*m-1) λi=>sumN j (λj'=>dg p j' x*shN j' (λi=>dg p i y) i)+if j<=i/\i<j+k then dg p j x*dg p (i-j) y else 0))) ⟨s9,s10,s11,s12,rfl,sx2.trans (Same.x s2),s2 _ _ hb2,e2,?_⟩ ?_ ?_ ?_
   ·rw[s2 _ _ hr2];congr 2;refine zbu λi _=>?_
    rw[if_neg ()];rfl
   ·rintro i σ H' _ ⟨s9,s10,s11,s12,rfl,_,_,h,_⟩;exact SqL.of h
   ·rintro k v σ H' H'' hk ⟨s9,s10,s11,s12,rfl,sx,hb,hc,hrow⟩ ⟨T,u,rfl,eu,hT,rfl⟩;rw[zbx]at hk;rw[ydu hk]at eu;cases eu;refine⟨T,_,rfl,SqT.of yab,rfl,_,_,rfl,_,_,rfl,rfl,?_⟩;have sx3:zaq l l H (upd H' T (.tup [.int k,Vn (dg p k y)])):=ygk sx hT;have hb3:(upd H' T (.tup [.int k,Vn (dg p k y)])) b1=some (.lst (digL p m x)):=by rw[zah (zaf hb hT)];exact hb
    have hc3:(upd H' T (.tup [.int k,Vn (dg p k y)])) b2=some (.lst (digL p m y)):=by rw[zah (zaf hc hT)];exact hc
    have hr3:=(zah (o:=.tup [.int k,Vn (dg p k y)]) (zaf hrow hT)).trans hrow;generalize upd H' T (.tup [.int k,Vn (dg p k y)])=G at sx3 hb3 hc3 hr3 ⊢;have d1:=yii hp j x;have hjk:j+k<2*m-1:=by omega
    refine⟨_,rfl,_,rfl,_,rfl,_,_,rfl,rfl,?_⟩;refine⟨l,_,_,_,rfl,rfl,SqL.of hr3,zeH _ hjk rfl,?_⟩;refine⟨_,rfl,_,rfl,_,_,rfl,rfl,.inl ⟨by show -(2^64:Int)<((dg p j x:Nat):Int);omega,by show((dg p j x:Nat):Int)<2^64;omega⟩,?_⟩;refine⟨_,_,rfl,rfl,?_⟩;refine⟨_,rfl,_,_,rfl,rfl,by show(0:Int)<(p:Int);omega,?_⟩;refine⟨_,rfl,_,rfl,_,rfl,_,_,rfl,rfl,?_⟩;refine⟨l,_,_,j+k,rfl,rfl,hr3,zfM (by rw[ybU];exact hjk) rfl,?_⟩;refine⟨_,_,s11,s12,rfl,yfW sx3,by rw[zah nb1];exact hb3,by rw[zah nb2];exact hc3,?_⟩;rw[yab];congr 2;refine yf6 (v:=dg p j x*dg p k y) hjk λi hi=>?_
    by_cases e:i=j+k
    ·subst e;rw[if_pos rfl,if_pos (),if_neg (),Nat.add_zero,show j+k-j=k by omega,Nat.mod_add_mod]
    ·rw[if_neg e];congr 2;by_cases h2:j<=i/\i<j+k
     ·rw[if_pos h2,if_pos ()]
     ·rw[if_neg h2,if_neg ()]
   ·rintro σ H' ⟨s9,s10,s11,s12,rfl,sx,hb,hc,hrow⟩;refine⟨_,_,s9,s10,s11,s12,rfl,sx,hb,?_⟩;rw[hrow,zbx];congr 2;refine zbu λi _=>?_
    rw[sumN];congr 2;unfold shN;by_cases h1:j<=i
    ·rw[if_pos h1];by_cases h2:i<j+m
     ·rw[if_pos ⟨h1,h2⟩]
     ·rw[if_neg ()];show 0=dg p j x*dg p (i-j) y;rw[yas hp hy (),Nat.mul_zero]
    ·rw[if_neg h1,if_neg (),Nat.mul_zero]
  ·rintro σ H' ⟨s7,s8,s9,s10,s11,s12,rfl,sx,hb,hrow⟩;refine hD _ _ ⟨s7,s8,s9,s10,s11,s12,rfl,sx,?_⟩;rw[hrow,zbx];congr 2;exact zbu λi _=>by rw[ydP]
end
end My
end
section
-- text: P4
namespace My
open PySem L2 Dg
section
variable {P:Program} {w:World} {K:PySem.W.Frag} {mg:Str->Option Value} {base:Heap} {f:Addr} {fd:FuncData}
theorem yis{b:Bool}(h:¬ (!b)=true):b=true:=by cases b <;> simp_all
noncomputable def zgj(K:PySem.W.Frag):Sp:=λvs H Q _=>∃(a:Addr) (p m t:Nat),vs=[.ref a]/\Fld K H a p m t/\2<=p/\1<=m/\p^m<=64/\t<p^m/\
 ∀(b:Bool) H',Same H H'->(b=true->∀x y,0<x->x<p^m->x<p^(m/2+1)->0<y->y<p^m->mul p m t x y≠0)->Q (.bl b) H'
theorem zaE:yah ["_law_field_here","_law_p","_law_m","_law_top","_law_many","_law_one"] ["_law_field_here"] (zae ya2):=⟨rfl,rfl,rfl,∅,rfl,∅,∅⟩
theorem yhw(B:Bl mg)(xBJ:Has P w K mg base 1 "_law_raised" ["_law_one","_law_many"] yam)(xBH:Has P w K mg base 2 "_law_product" ["_law_field_here","_law_one","_law_other"] (ycg K))(F:Fun K "_law_is_good" "_law_is_good" ya2 f fd):FnOk P w K mg base CX0 3 f fd ["_law_field_here"] (zgj K):=by
 refine F.ok zaE (λvs H Q E h=>?_) (λcdv A outer s H vs Q E hr h=>?_)
 ·obtain⟨a,p,m,t,rfl,_⟩:=h;rfl
 obtain⟨a,p,m,t,rfl,hF,hp,hm,hpm,ht,q⟩:=h;have hp2:=p_le hp hm hpm;have hm6:=m_le hp hpm;have hpos:0<p^m:=xB7 ();refine⟨_,(@yaa _ _ _ _ _ (@za5 _ _ _ _ _ _ (pv 0) (@zaX _ _ _ _ _ _ rfl (@yag _ _ _ _ _ (@yae _ _ 1 _ zaE.nd rfl (Or.inl rfl) (by trivial)) (@yag _ _ _ _ _ (@yae _ _ 2 _ zaE.nd rfl (Or.inl rfl) (by trivial)) (@yag _ _ _ _ _ (@yae _ _ 3 _ zaE.nd rfl (Or.inl rfl) (by trivial)) yaE ⋯) ⋯) ⋯) ⋯ ⋯) ⋯ ⋯ ⋯) (@yaa _ _ _ _ _ (@yaf _ _ 4 _ _ _ _ zaE.nd rfl (Or.inl rfl) (@zad _ _ _ _ _ _ _ _ _ _ _ xBJ hr #[] rfl (@zaa _ _ _ _ _ (pv 1) (@zaa _ _ _ _ _ (pv 2) zab ⋯) ⋯) #[] ⋯ ⋯) ⋯ (by trivial)) (@yaa _ _ _ _ _ (@zaF _ _ _ _ _ _ _ _ xAi rfl (@zca _ _ _ _ _ _ _ rfl (B "range" #[]) (@zaa _ _ _ _ _ yac (@zaa _ _ _ _ _ (@zam _ _ _ _ _ _ _ _ _ (yd3 rfl) rfl (B "min" #[]) ycR (@zaa _ _ _ _ _ (pv 4) (@zaa _ _ _ _ _ (@zad _ _ _ _ _ _ _ _ _ _ _ xBJ hr #[] rfl (@zaa _ _ _ _ _ (pv 1) (@zaa _ _ _ _ _ (@zag _ _ _ _ _ _ _ _ yav (@zag _ _ _ _ _ _ _ _ ycK (pv 2) yac) yac) zab ⋯) ⋯) #[] ⋯ ⋯) zab ⋯) ⋯) #[] #[] ⋯ ⋯) zab ⋯) ⋯) ⋯ ⋯) (@yae _ _ 5 _ zaE.nd rfl (Or.inr rfl) (by trivial)) (@yad _ _ _ (@yaS _ _ _ _ _ _ _ _ (@ygr _ _ _ _ (@zdj _ _ _ (@zam _ _ _ _ _ _ _ _ _ (zcB rfl) rfl (B "all" #[]) PyProof.Rows.boot_all (@zaa _ _ _ _ _ (@zaI _ _ _ _ _ _ _ ["_law_other"] ["_law_field_here","_law_one"] [0,5] _ _ _ _ (id (α:=CSc ["_law_field_here","_law_p","_law_m","_law_top","_law_many","_law_one"] (zae ya2) ["_law_other"] ["_law_field_here","_law_one"] [0,5] _) ⟨by rfl,∅,∅,∅,∅,by rfl,∅⟩) rfl (@zca _ _ _ _ _ _ _ rfl (B "range" #[]) (@zaa _ _ _ _ _ yac (@zaa _ _ _ _ _ (pv 4) zab ⋯) ⋯) ⋯ ⋯) (λcl C fp s H=>(@yae _ _ 0 _ (by show List.Nodup (["_law_other","_law_field_here","_law_one"]:List Str);decide +kernel) rfl (Or.inl rfl) (by trivial))) (λ_ _ _ _ _=>yaD) (λ_ _ _ _ _=>(@ybg _ _ _ _ _ _ _ _ yb3 (@zad _ _ _ _ _ _ _ _ _ _ _ xBH hr #[] rfl (@zaa _ _ _ _ _ (pv 1) (@zaa _ _ _ _ _ (pv 2) (@zaa _ _ _ _ _ (pv 0) zab ⋯) ⋯) ⋯) #[] ⋯ ⋯) yac (yaj _))) (by intro _;rfl)) zab ⋯) #[] #[] ⋯ ⋯) (by intro _;rfl))) (@yad _ _ _ (@yai _ _ _ _ yeA)) zas)) (by intro _;rfl)) (@yad _ _ _ (@yai _ _ _ _ yeA))))),?_⟩;refine⟨_,rfl,a,_,rfl,hF,rfl,_,_,rfl,_,_,rfl,_,_,rfl,rfl,?_⟩;refine⟨_,rfl,_,rfl,p,m,rfl,hp2,(),?_⟩;refine⟨_,rfl,_,rfl,_,rfl,_,_,rfl,rfl,⟨by show(0:Int)<2;decide,by show(2:Int)<2^64;decide⟩,?_⟩;refine⟨_,_,rfl,rfl,?_⟩;refine⟨p,m/2+1,rfl,hp2,(),?_⟩;refine⟨_,_,rfl,?_⟩;generalize hj:(if (((p^(m/2+1):Nat):Int)<((p^m:Nat):Int)) then((p^(m/2+1):Nat):Int) else((p^m:Nat):Int))=j;have hj2:0<=j/\j<=((p^m:Nat):Int)/\∀x:Nat,x<p^m->x<p^(m/2+1)->(x:Int)<j:=by
  rw[<-hj];split
  ·exact⟨(),(),λx h1 h2=>by omega⟩
  ·exact⟨(),(),λx h1 h2=>by omega⟩
 refine⟨1,j,rfl,⟨(),(),(),()⟩,?_⟩;refine zaU (λi σ H'=>Same H H'/\(∀x y,0<x->x<1+i->0<y->y<p^m->mul p m t x y≠0)/\∃s,σ=[some (.ref a),some (Vn p),some (Vn m),some (Vn t),some (Vn (p^m)),s]) ⟨Same.refl _,λx y h1 h2=>by omega,none,rfl⟩ ?_ ?_
 ·rintro i σ H' hi ⟨sm,hno,s,rfl⟩;refine⟨_,rfl,1,((p^m:Nat):Int),rfl,⟨(),(),(),()⟩,?_⟩;refine zav zaZ (λk acc H1=>Same H H1/\acc=((List.range k).map λj=>decide (0<mul p m t (1+i) (1+j))).map V.bl) ⟨sm,rfl⟩ (λ_ _ _ _ _=>trivial) ?_ ?_ ?_
  ·rintro k acc H1 hk ⟨_,rfl⟩;rw[xA1,xA1,xAt];exact Nat.lt_of_le_of_lt (show k<=1000 by omega) (zal (xA4 _))
  ·rintro k acc x H1 H2 hk ⟨sm1,rfl⟩ ⟨rfl,rfl⟩;refine⟨_,rfl,_,rfl,_,rfl,a,p,m,t,1+i,1+k,rfl,Same.tup sm1 hF,hp,hm,hpm,ht,(),(),λr H3 s3 br hr=>?_⟩;have e:=zbH hp hm br hr;subst e;refine⟨_,_,rfl,rfl,sm1.trans s3,?_⟩;rw[xBa,xA8,xA8];refine congrArg (_++[V.bl ·]) ?_;show decide ((0:Int)<((mul p m t (1+i) (1+k):Nat):Int))=decide (0<mul p m t (1+i) (1+k));exact decide_eq_decide.mpr ()
  ·rintro acc H1 ⟨sm1,rfl⟩ D hD;refine⟨D,_,rfl,SqL.of yab,_,rfl,?_⟩;refine ite2 (λc=>?_) (λc=>?_)
   ·exact q _ _ (sm1.trans (zac hD _)) (λh=>by cases h)
   ·refine⟨sm1.trans (zac hD _),λx y h1 h2 h3 h4=>?_,_,rfl⟩;by_cases hx:x<1+i
    ·exact hno x y h1 hx h3 h4
    ·have c2:((List.range (((p^m:Nat):Int)-1).toNat).map λj=>decide (0<mul p m t (1+i) (1+j))).all id=true:=yis c;rw[xAT]at c2;have c3:=c2 (decide (0<mul p m t (1+i) (1+(y-1)))) (xAe.mpr ⟨y-1,xAu.mpr (),rfl⟩);have c4:0<mul p m t (1+i) (1+(y-1)):=xAh c3;rw[show 1+i=x by omega,show 1+(y-1)=y by omega]at c4;omega
 ·rintro σ H' ⟨sm,hno,s,rfl⟩;refine q _ _ sm λ_ x y h1 h2 h3 h4 h5=>hno x y h1 ?_ h4 h5
  have:=hj2.2.2 x h2 h3;omega
end
end My
end
section
-- text: P5
namespace My
open PySem L2 Dg
theorem zgy{p m:Nat}(h:(p,m)∈Dg.menu):(p,1)∈Dg.menu:=(by decide +kernel:∀c∈Dg.menu,(c.1,1)∈Dg.menu) (p,m) h
noncomputable def yf2:List (Int×Int)->TA
 | []=>tNil
 |(p,m)::r=>yc9 (tTup (yc9 (tC (.int p)) (yc9 (tC (.int m)) tNil))) (yf2 r)
@[irreducible] noncomputable def ydI (ps:List (Int×Int)):TA:=yf2 ps
theorem zdK(ps:List (Int×Int)):ydI ps=yf2 ps:=by unfold ydI;rfl
theorem zd3:ydI []=tNil:=by rw[zdK];rfl
theorem ydi{p m:Int}{r:List (Int×Int)}:ydI ((p,m)::r)=yc9 (tTup (yc9 (tC (.int p)) (yc9 (tC (.int m)) tNil))) (ydI r):=by rw[zdK,zdK];rfl
section
variable {X:Cx}
theorem ycU:PA X [] (ydI []):=by rw[zd3];exact zab
theorem zan{p m:Int}{k1 k2 c:Nat}{p1 p2 p3:Pos}{es:List Expr}{r:List (Int×Int)}(h:PA X es (ydI r)):PA X (.Tuple [.Constant (.int p) k1 p1,.Constant (.int m) k2 p2] c p3::es) (ydI ((p,m)::r)):=by
 rw[ydi];exact zaa (zaV (zaa yac (zaa yac zab))) h
end
noncomputable def zdm(H:Hp)(t:Addr):Prop:=∃p m:Nat,H t=some (.tup [Vn p,Vn m])/\(p,m)∈Dg.menu
theorem zdm.same{H H':Hp}{t:Addr}(h:zdm H t)(s:∀o,H t=some o->H' t=some o):zdm H' t:=by
 obtain⟨p,m,e,q⟩:=h;exact⟨p,m,s _ e,q⟩
theorem yc3:∀(ps:List (Int×Int)) (σ:St) (H:Hp) (Q:List V->Hp->Prop),(∀x∈ps,∃p m:Nat,x=((p:Int),(m:Int))/\(p,m)∈Dg.menu)->
  (∀(ts:List Addr) H',Same H H'->ts.length=ps.length->(∀t∈ts,H t=none/\zdm H' t)->Q (ts.map V.ref) H')->ydI ps σ H Q
 | [],σ,H,Q,_,q=>by rw[zd3];exact q [] H (Same.refl _) rfl (λt ht=>nomatch ht)
 |(p,m)::r,σ,H,Q,hp,q=>by
  rw[ydi];refine⟨szl 2,λt ht=>?_⟩;obtain⟨p',m',e,b⟩:=hp (p,m) xAf;cases e;refine yc3 r σ _ _ (λx hx=>hp x (xAd _ hx)) λts H' s hl hts=>?_
  refine q (t::ts) H' ((zac ht _).trans s) (by simp[hl]) λt' ht'=>?_
  rcases xAa.mp ht' with e|e
  ·subst e;exact⟨ht,p',m',s _ _ yab,b⟩
  ·exact⟨(zac ht _).free (hts t' e).1,(hts t' e).2⟩
structure Menu(a g:Addr)(H:Hp)(l:Addr)(n:Nat):Prop where
 ex:∃ts:List Addr,H l=some (.lst (ts.map V.ref))/\ts.length=n/\∀t∈ts,t≠a/\t≠g/\zdm H t
 na:l≠a
 ng:l≠g
theorem Menu.x{a g l:Addr}{n:Nat}{H H':Hp}(h:Menu a g H l n)(s:zaq a g H H'):Menu a g H' l n:=by
 obtain⟨⟨ts,h1,h2,h3⟩,na,ng⟩:=h;exact⟨⟨ts,s _ _ na ng h1,h2,λt ht=>⟨(h3 t ht).1,(h3 t ht).2.1,(h3 t ht).2.2.same λo e=>s _ _ (h3 t ht).1 (h3 t ht).2.1 e⟩⟩,na,ng⟩
section
variable {P:Program} {w:World} {K:PySem.W.Frag} {mg:Str->Option Value} {base:Heap} {f:Addr} {fd:FuncData}
noncomputable def yb8:List Nat:=[17,19,23,29,31,37,41,43,47,53,59]
noncomputable def zeP:Sp:=λvs H Q _=>∃(a g:Addr),vs=[.ref a]/\Pu H a g/\∀(r:Addr) (p m t:Nat) H',r≠a->r≠g->H r=none->H' r=some (.tup [Vn p,Vn m,Vn t])->Good p m t->Pu H' a g->zaq a g H H'->Q (.ref r) H'
theorem zar:yah ["_law_purse_here","_law_some","_law_size","_law_p","_law_m","_law_many","_law_start","_law_turn","_law_field_here"] ["_law_purse_here"] (zae zbl):=⟨rfl,rfl,rfl,∅,rfl,∅,∅⟩
theorem Pu.lt{H:Hp}{a g l:Addr}(h:Pu H a g)(hl:H l=none):l≠a/\l≠g:=by
 obtain⟨ns,s,t,h1,h2⟩:=h;exact⟨Ne.symm (zaf h1 hl),Ne.symm (zaf h2 hl)⟩
theorem ygy(B:Bl mg)(xBE:Has P w K mg base 1 "_law_pick" ["_law_purse_here","_law_many"] ycr)(xBJ:Has P w K mg base 1 "_law_raised" ["_law_one","_law_many"] yam)(xBB:Has P w K mg base 3 "_law_is_good" ["_law_field_here"] (zgj K))(F:Fun K "_law_field" "_law_field" zbl f fd):FnOk P w K mg base CX0 4 f fd ["_law_purse_here"] zeP:=by
 refine F.ok zar (λvs H Q E h=>?_) (λcdv A outer s H vs Q E hr h=>?_)
 ·obtain⟨a,g,rfl,_⟩:=h;rfl
 obtain⟨a,g,rfl,hP,q⟩:=h;refine⟨_,(@yaa _ _ _ _ _ (@yaf _ _ 1 _ _ _ _ zar.nd rfl (Or.inl rfl) (@yaI _ _ _ _ (@zan _ _ _ _ _ _ _ _ _ _ _ (@zan _ _ _ _ _ _ _ _ _ _ _ (@zan _ _ _ _ _ _ _ _ _ _ _ (@zan _ _ _ _ _ _ _ _ _ _ _ (@zan _ _ _ _ _ _ _ _ _ _ _ (@zan _ _ _ _ _ _ _ _ _ _ _ (@zan _ _ _ _ _ _ _ _ _ _ _ (@zan _ _ _ _ _ _ _ _ _ _ _ (@zan _ _ _ _ _ _ _ _ _ _ _ (@zan _ _ _ _ _ _ _ _ _ _ _ (@zan _ _ _ _ _ _ _ _ _ _ _ (@zan _ _ _ _ _ _ _ _ _ _ _ ycU))))))))))))) ⋯ (by trivial)) (@yaa _ _ _ _ _ (@yaf _ _ 2 _ _ _ _ zar.nd rfl (Or.inl rfl) (@zad _ _ _ _ _ _ _ _ _ _ _ xBE hr #[] rfl (@zaa _ _ _ _ _ (pv 0) (@zaa _ _ _ _ _ yac zab ⋯) ⋯) #[] ⋯ ⋯) ⋯ (by trivial)) (@yaa _ _ _ _ _ (@yaS _ _ _ _ _ _ _ _ (@zai _ _ _ _ _ _ _ _ za4 (pv 2) yac (yaj _)) (@yad _ _ _ (@yaf _ _ 1 _ _ _ _ zar.nd rfl (Or.inl rfl) (@yaI _ _ _ _ (@zan _ _ _ _ _ _ _ _ _ _ _ (@zan _ _ _ _ _ _ _ _ _ _ _ (@zan _ _ _ _ _ _ _ _ _ _ _ (@zan _ _ _ _ _ _ _ _ _ _ _ ycU))))) ⋯ (by trivial))) zas) (@yaa _ _ _ _ _ (@yaS _ _ _ _ _ _ _ _ (@zai _ _ _ _ _ _ _ _ za4 (pv 2) yac (yaj _)) (@yad _ _ _ (@ych _ 1 _ _ _ _ _ _ _ _ _ ["_law_p"] [] [] _ _ _ _ zar.nd rfl (Or.inl rfl) (id (α:=CSc ["_law_purse_here","_law_some","_law_size","_law_p","_law_m","_law_many","_law_start","_law_turn","_law_field_here"] (zae zbl) ["_law_p"] [] [] _) ⟨by rfl,∅,∅,∅,∅,by rfl,∅⟩) rfl (@ybc _ _ _ _ (@yaI _ _ _ _ (@zaa _ _ _ _ _ yac (@zaa _ _ _ _ _ yac (@zaa _ _ _ _ _ yac (@zaa _ _ _ _ _ yac (@zaa _ _ _ _ _ yac (@zaa _ _ _ _ _ yac (@zaa _ _ _ _ _ yac (@zaa _ _ _ _ _ yac (@zaa _ _ _ _ _ yac (@zaa _ _ _ _ _ yac (@zaa _ _ _ _ _ yac zab ⋯) ⋯) ⋯) ⋯) ⋯) ⋯) ⋯) ⋯) ⋯) ⋯) ⋯))) (λcl C fp s H=>(@yae _ _ 0 _ (by show List.Nodup (["_law_p"]:List Str);decide +kernel) rfl (Or.inl rfl) (by trivial))) (λ_ _ _ _ _=>yaD) (λ_ _ _ _ _=>(@zaV _ _ _ _ _ (@zaa _ _ _ _ _ (pv 0) (@zaa _ _ _ _ _ yac zab ⋯) ⋯))) ⋯ (by intro _;rfl) (by trivial))) zas) (@yaa _ _ _ _ _ (@za5 _ _ _ _ _ _ (@zao _ _ _ _ _ _ _ yan (pv 1) (@zad _ _ _ _ _ _ _ _ _ _ _ xBE hr #[] rfl (@zaa _ _ _ _ _ (pv 0) (@zaa _ _ _ _ _ (@zam _ _ _ _ _ _ _ _ _ zak rfl (B "len" #[]) xAR (@zaa _ _ _ _ _ (pv 1) zab ⋯) #[] #[] ⋯ ⋯) zab ⋯) ⋯) #[] ⋯ ⋯) (λ_ _=>rfl)) (@zaX _ _ _ _ _ _ rfl (@yag _ _ _ _ _ (@yae _ _ 3 _ zar.nd rfl (Or.inl rfl) (by trivial)) (@yag _ _ _ _ _ (@yae _ _ 4 _ zar.nd rfl (Or.inl rfl) (by trivial)) yaE ⋯) ⋯) ⋯ ⋯) ⋯ ⋯ ⋯) (@yaa _ _ _ _ _ (@yaf _ _ 5 _ _ _ _ zar.nd rfl (Or.inl rfl) (@zad _ _ _ _ _ _ _ _ _ _ _ xBJ hr #[] rfl (@zaa _ _ _ _ _ (pv 3) (@zaa _ _ _ _ _ (pv 4) zab ⋯) ⋯) #[] ⋯ ⋯) ⋯ (by trivial)) (@yaa _ _ _ _ _ (@yaf _ _ 6 _ _ _ _ zar.nd rfl (Or.inl rfl) (@zad _ _ _ _ _ _ _ _ _ _ _ xBE hr #[] rfl (@zaa _ _ _ _ _ (pv 0) (@zaa _ _ _ _ _ (pv 5) zab ⋯) ⋯) #[] ⋯ ⋯) ⋯ (by trivial)) (@yaa _ _ _ _ _ (@zaF _ _ _ _ _ _ _ _ xAi rfl (@yaG _ _ _ _ _ _ rfl (B "range" #[]) (@zaa _ _ _ _ _ (pv 5) zab ⋯) ⋯) (@yae _ _ 7 _ zar.nd rfl (Or.inl rfl) (by trivial)) (@yaa _ _ _ _ _ (@yaf _ _ 8 _ _ _ _ zar.nd rfl (Or.inl rfl) (@zaV _ _ _ _ _ (@zaa _ _ _ _ _ (pv 3) (@zaa _ _ _ _ _ (pv 4) (@zaa _ _ _ _ _ (@zag _ _ _ _ _ _ _ _ zaC (@zag _ _ _ _ _ _ _ _ yav (pv 6) (pv 7)) (pv 5)) zab ⋯) ⋯) ⋯)) ⋯ (by trivial)) (@yad _ _ _ (@yaS _ _ _ _ _ _ _ _ (@PW.pt _ _ _ (@yfp _ _ _ _ _ _ _ (@zai _ _ _ _ _ _ _ _ za4 (pv 4) yac (yaj _)) (@zde _ _ _ _ (@zdj _ _ _ (@zad _ _ _ _ _ _ _ _ _ _ _ xBB hr #[] rfl (@zaa _ _ _ _ _ (pv 8) zab ⋯) #[] ⋯ ⋯) (by intro _;rfl))))) (@yad _ _ _ (@yai _ _ _ _ (pv 8))) zas))) (by intro _;rfl)) (@yad _ _ _ (@yai _ _ _ _ (@zaV _ _ _ _ _ (@zaa _ _ _ _ _ (pv 3) (@zaa _ _ _ _ _ yac (@zaa _ _ _ _ _ yac zab ⋯) ⋯) ⋯)))))))))))),?_⟩
 refine yc3 [(2,1),(2,2),(2,3),(2,4),(3,1),(3,2),(3,3),(5,1),(5,2),(7,1),(11,1),(13,1)] _ H _ ?_ λts H0 s0 hts hpair=>?_
 ·intro x hx;simp only[xAa,xAk,xB0]at hx;rcases hx with rfl|rfl|rfl|rfl|rfl|rfl|rfl|rfl|rfl|rfl|rfl|rfl
  ·exact⟨2,1,rfl,∅⟩
  ·exact⟨2,2,rfl,∅⟩
  ·exact⟨2,3,rfl,∅⟩
  ·exact⟨2,4,rfl,∅⟩
  ·exact⟨3,1,rfl,∅⟩
  ·exact⟨3,2,rfl,∅⟩
  ·exact⟨3,3,rfl,∅⟩
  ·exact⟨5,1,rfl,∅⟩
  ·exact⟨5,2,rfl,∅⟩
  ·exact⟨7,1,rfl,∅⟩
  ·exact⟨11,1,rfl,∅⟩
  ·exact⟨13,1,rfl,∅⟩
 refine⟨by rw[xA1,hts];exact szl 12,λl hl=>?_⟩;have hP0:Pu (upd H0 l (.lst (ts.map V.ref))) a g:=hP.same (s0.trans (zac hl _));have sx0:zaq a g H (upd H0 l (.lst (ts.map V.ref))):=Same.x (s0.trans (zac hl _));have M0:Menu a g (upd H0 l (.lst (ts.map V.ref))) l 12:=by
  have n1:=(hP.same s0).lt hl;refine⟨⟨ts,yab,hts,λt ht=>?_⟩,n1.1,n1.2⟩;have n2:=hP.lt (hpair t ht).1;exact⟨n2.1,n2.2,(hpair t ht).2.same λo e=>(zac hl _) _ _ e⟩
 generalize upd H0 l (.lst (ts.map V.ref))=G at hP0 sx0 M0 ⊢;refine⟨_,rfl,a,g,8,rfl,hP0,(),(),λsz H1 hsz hP1 sx1=>?_⟩;have sxA:=sx0.trans sx1;have M1:=M0.x sx1;dsimp only[yaw];refine zbf (λσ H'=>∃l n,0<n/\n<=12/\Menu a g H' l n/\Pu H' a g/\zaq a g H H'/\σ=[some (.ref a),some (.ref l),some (Vn sz),none,none,none,none,none,none]) ?_ ?_
 ·rintro σ H2 ⟨l,n,hn,hn2,M2,hP2,sx2,rfl⟩;refine zbf (λσ H'=>∃l n,0<n/\n<=12/\Menu a g H' l n/\Pu H' a g/\zaq a g H H'/\σ=[some (.ref a),some (.ref l),some (Vn sz),none,none,none,none,none,none]) ?_ ?_
  ·rintro σ H3 ⟨l,n,hn,hn2,M3,hP3,sx3,rfl⟩;obtain⟨ts3,e3,l3,p3⟩:=M3.ex;refine⟨_,rfl,_,rfl,_,rfl,l,_,rfl,.inl (SqL.of e3),?_⟩;refine⟨a,g,n,by rw[xA1,l3];rfl,hP3,hn,(),λi H4 hi hP4 sx4=>?_⟩;obtain⟨ts4,e4,l4,p4⟩:=(M3.x sx4).ex;have hi4:i<ts4.length:=by omega
   refine⟨l,_,_,.ref (ts4[i]),rfl,rfl,SqL.of e4,yaZ (by rw[xA9,xA7 hi4];rfl),?_⟩;obtain⟨_,_,p,m,ep,hmem⟩:=p4 ts4[i] (List.getElem_mem hi4);obtain⟨hp,hm,hpm⟩:=ybt hmem;have hp2:=p_le hp hm hpm;have hm6:=m_le hp hpm;have hpos:0<p^m:=xB7 ();refine⟨ts4[i],_,rfl,SqT.of ep,rfl,_,_,rfl,_,_,rfl,rfl,?_⟩;refine⟨_,rfl,_,rfl,p,m,rfl,hp2,(),?_⟩;refine⟨_,rfl,_,rfl,a,g,p^m,rfl,hP4,hpos,(),λst H5 hst hP5 sx5=>?_⟩;have sxE:=sx3.trans (sx4.trans sx5);refine⟨_,rfl,((p^m:Nat):Int),rfl,(),(),?_⟩;refine zaU (n:=p^m) (λi σ H'=>Pu H' a g/\zaq a g H H'/\∃s7 s8,σ=[some (.ref a),some (.ref l),some (Vn sz),some (Vn p),some (Vn m),some (Vn (p^m)),some (Vn st),s7,s8]) ⟨hP5,sxE,none,none,rfl⟩ ?_ ?_
   ·rintro j σ H6 hj ⟨hP6,sx6,s7,s8,rfl⟩;refine⟨_,rfl,_,rfl,_,rfl,_,rfl,_,_,rfl,rfl,?_⟩;refine⟨_,rfl,_,_,rfl,rfl,by show(0:Int)<((p^m:Nat):Int);omega,?_⟩;refine⟨szl 3,λr hr=>?_⟩;have nr:=hP6.lt hr;have hr0:H r=none:=by
     cases e:H r with
     |none=>rfl
     |some o=>rw[sx6 r o nr.1 nr.2 e]at hr;cases hr
    have et:V.int ((((st:Nat):Int)+(0+(j:Int)))%((p^m:Nat):Int))=Vn ((st+j)%p^m):=by show V.int _=V.int _;congr 1;rw[Int.zero_add];rfl
    have hlt:(st+j)%p^m<p^m:=xAC _ hpos;have hP7:Pu (upd H6 r (.tup [Vn p,Vn m,Vn ((st+j)%p^m)])) a g:=hP6.same (zac hr _);have sx7:zaq a g H (upd H6 r (.tup [Vn p,Vn m,Vn ((st+j)%p^m)])):=sx6.trans (Same.x (zac hr _));dsimp only[yaw];rw[et];refine⟨_,rfl,rfl,_,rfl,?_⟩;refine ite2 (λc=>?_) (λc=>?_)
    ·refine ite2 (λ_=>?_) (λc=>absurd rfl c);have hm1:m=1:=by
      have:=xAh c;injection this with this;omega
     exact⟨_,rfl,q r p m _ _ nr.1 nr.2 hr0 yab ⟨hmem,hlt,.inl hm1⟩ hP7 sx7⟩
    ·refine⟨_,rfl,r,p,m,(st+j)%p^m,rfl,SqT.of yab,hp,hm,hpm,hlt,λb H8 s8' hb=>?_⟩;refine⟨_,rfl,?_⟩;refine ite2 (λc2=>?_) (λ_=>?_)
     ·exact⟨_,rfl,q r p m _ _ nr.1 nr.2 hr0 (s8' _ _ yab) ⟨hmem,hlt,.inr (hb c2)⟩ (hP7.same s8') (sx7.trans (Same.x s8'))⟩
     ·exact⟨hP7.same s8',sx7.trans (Same.x s8'),_,_,rfl⟩
   ·rintro σ H6 ⟨hP6,sx6,s7,s8,rfl⟩;refine⟨_,rfl,szl 3,λr hr=>?_⟩;have nr:=hP6.lt hr;have hr0:H r=none:=by
     cases e:H r with
     |none=>rfl
     |some o=>rw[sx6 r o nr.1 nr.2 e]at hr;cases hr
    exact q r p 1 0 _ nr.1 nr.2 hr0 yab ⟨zgy hmem,by simp;omega,.inl rfl⟩ (hP6.same (zac hr _)) (sx6.trans (Same.x (zac hr _)))
  ·intro D' _ _ _ hD;refine⟨_,rfl,rfl,_,rfl,?_⟩;refine ite2 (λc=>?_) (λc=>hD _ _ ⟨l,n,hn,hn2,M2,hP2,sx2,rfl⟩);refine⟨szl 11,λl2 hl2=>?_⟩;refine⟨l2,rfl,⟨_,SqL.of yab⟩,?_⟩;refine zav (yaT (xs:=yb8.map Vn)) (λk acc H'=>Same (upd H2 l2 (.lst (yb8.map Vn))) H'/\∃ts:List Addr,ts.length=k/\acc=ts.map V.ref/\∀t∈ts,t≠a/\t≠g/\zdm H' t)
    ⟨Same.refl _,[],rfl,rfl,λt ht=>nomatch ht⟩ (λi acc H' _ h=>SqL.of (h.1 _ _ yab)) ?_ ?_ ?_
   ·rintro k acc H' hk ⟨_,ts,e,rfl,_⟩;have hk':k<11:=hk;rw[xA1,e];exact zal ()
   ·rintro k acc x H3 H4 hk ⟨s3,ts,e,rfl,hts⟩ ⟨rfl,hx⟩;obtain⟨pr,hpr,rfl⟩:∃pr,pr∈yb8/\x=Vn pr:=by
     rw[xA9]at hx;cases e:yb8[k]? with
     |none=>rw[e]at hx;cases hx
     |some pr=>rw[e]at hx;cases hx;exact⟨pr,xBo e,rfl⟩
    have hb:(pr,1)∈Dg.menu:=(by decide +kernel:∀x∈yb8,(x,1)∈Dg.menu) pr hpr;refine⟨_,rfl,szl 2,λt ht=>?_⟩;have hP3:Pu H4 a g:=hP2.same ((zac hl2 _).trans s3);have nt:=hP3.lt ht;refine⟨s3.trans (zac ht _),ts++[t],by simp[e],by simp,λt' ht'=>?_⟩;rcases xAB.mp ht' with h|h
    ·exact⟨(hts t' h).1,(hts t' h).2.1,(hts t' h).2.2.same λo e=>(zac ht _) _ _ e⟩
    ·cases xAJ.mp h;exact⟨nt.1,nt.2,pr,1,yab,hb⟩
   ·rintro acc H3 ⟨s3,ts,e,rfl,hts⟩ D hD3;have sA:Same H2 H3:=(zac hl2 _).trans s3;have hP3:Pu H3 a g:=hP2.same sA;have nD:=hP3.lt hD3;refine hD _ _ ⟨D,11,(),(),⟨⟨ts,yab,e,λt ht=>?_⟩,nD.1,nD.2⟩,hP3.same (zac hD3 _),sx2.trans (Same.x (sA.trans (zac hD3 _))),rfl⟩;exact⟨(hts t ht).1,(hts t ht).2.1,(hts t ht).2.2.same λo e=>(zac hD3 _) _ _ e⟩
 ·intro D' _ _ _ hD;refine⟨_,rfl,rfl,_,rfl,?_⟩;refine ite2 (λc=>?_) (λc=>hD _ _ ⟨l,12,(),(),M1,hP1,sxA,rfl⟩);refine yc3 [(2,5),(2,6),(7,2),(61,1)] _ H1 _ ?_ λts2 H2 s2 hts2 hpair2=>?_
  ·intro x hx;simp only[xAa,xAk,xB0]at hx;rcases hx with rfl|rfl|rfl|rfl
   ·exact⟨2,5,rfl,∅⟩
   ·exact⟨2,6,rfl,∅⟩
   ·exact⟨7,2,rfl,∅⟩
   ·exact⟨61,1,rfl,∅⟩
  refine⟨by rw[xA1,hts2];exact szl 4,λl2 hl2=>?_⟩;refine hD _ _ ⟨l2,4,(),(),?_,hP1.same (s2.trans (zac hl2 _)),sxA.trans (Same.x (s2.trans (zac hl2 _))),rfl⟩;have n1:=(hP1.same s2).lt hl2;refine⟨⟨ts2,yab,hts2,λt ht=>?_⟩,n1.1,n1.2⟩;have n2:=hP1.lt (hpair2 t ht).1;exact⟨n2.1,n2.2,(hpair2 t ht).2.same λo e=>(zac hl2 _) _ _ e⟩
end
end My
end
section
-- text: P8
namespace My
open PySem L2 Dg
theorem yee:bootBuiltins "dict"=some (.type "dict"):=by decide +kernel
noncomputable def Pws(p m t b:Nat):List Nat:=(List.range (p^m-1)).map (pw p m t b)
noncomputable def Logs(p m t b:Nat):List (Key×V):=(List.range (p^m-1)).map λi=>(Sum.inl ((pw p m t b i:Nat):Int),Vn i)
noncomputable def tabD(fa pa la:Addr)(p m:Nat):List (Key×V):=[(.inr "field",.ref fa),(.inr "p",Vn p),(.inr "m",Vn m),(.inr "many",Vn (p^m)),(.inr "powers",.ref pa),(.inr "logs",.ref la)]
structure Tab(H:Hp)(tb fa pa la:Addr)(p m t b:Nat):Prop where
 d:H tb=some (.dK (tabD fa pa la p m))
 f:H fa=some (.tup [Vn p,Vn m,Vn t])
 w:H pa=some (.lst ((Pws p m t b).map Vn))
 l:H la=some (.dK (Logs p m t b))
 good:Good p m t
 prim:Prim p m t b
theorem Tab.same{H H':Hp}{tb fa pa la:Addr}{p m t b:Nat}(T:Tab H tb fa pa la p m t b)(s:Same H H'):Tab H' tb fa pa la p m t b :=
 ⟨s _ _ T.d,s _ _ T.f,s _ _ T.w,s _ _ T.l,T.good,T.prim⟩
theorem zbd{α:Type}{f:Nat->α}(n:Nat)(h:∀i j,i<n->j<n->f i=f j->i=j):((List.range n).map f).Nodup:=by
 rw[List.Nodup,List.pairwise_iff_getElem];intro i j hi hj hij;simp only[xA1,xAt]at hi hj;simp only[List.getElem_map,List.getElem_range];intro e;have:=h i j hi hj e;omega
theorem yfv{f:Nat->Key}{g:Nat->V}:∀(l:List Nat) (n:Nat),l=List.range n->(∀i j,i<n->j<n->f i=f j->i=j)->∀i,i<n->valV (l.map λi=>(f i,g i)) (f i)=some (g i):=by
 intro l n hl h i hi;subst hl;unfold valV;rw[List.find?_map];have e:(List.range n).find? ((λkv:Key×V=>decide (kv.1=f i)) ∘ λi=>(f i,g i))=some i:=by
  rw[List.find?_range_eq_some];refine⟨by simp,by simpa using hi,λj hj=>?_⟩;simp only[Function.comp,Bool.not_eq_true',decide_eq_false_iff_not];intro e;have:=h j i () hi e;omega
 rw[e];rfl
theorem zfu(fa pa la:Addr)(p m:Nat):ydm [] (tabD fa pa la p m)=tabD fa pa la p m:=rfl
theorem yds(p m t b:Nat):(Pws p m t b).length=p^m-1:=by simp[Pws]
section
variable {P:Program} {w:World} {K:PySem.W.Frag} {mg:Str->Option Value} {base:Heap} {f:Addr} {fd:FuncData}
noncomputable def ye2:Sp:=λvs H Q _=>∃(fa:Addr) (p m t:Nat),vs=[.ref fa]/\H fa=some (.tup [Vn p,Vn m,Vn t])/\Good p m t/\∀tb pa la b H',H tb=none->H pa=none->H la=none->Tab H' tb fa pa la p m t b->Same H H'->Q (.ref tb) H'
theorem zaL:yah ["_law_field_here","_law_many","_law_powers","_law_base","_law_thing","_law_logs"] ["_law_field_here"] (zae zbk):=⟨rfl,rfl,rfl,∅,rfl,∅,∅⟩
theorem ygW(B:Bl mg)(xBJ:Has P w K mg base 1 "_law_raised" ["_law_one","_law_many"] yam)(xBH:Has P w K mg base 2 "_law_product" ["_law_field_here","_law_one","_law_other"] (ycg K))(F:Fun K "_law_table" "_law_table" zbk f fd):FnOk P w K mg base CX0 3 f fd ["_law_field_here"] ye2:=by
 refine F.ok zaL (λvs H Q E h=>?_) (λcdv A outer s H vs Q E hr h=>?_)
 ·obtain⟨fa,p,m,t,rfl,_⟩:=h;rfl
 obtain⟨fa,p,m,t,rfl,hf,G,q⟩:=h;obtain⟨b,Pb⟩:=G.prim;have hp:=G.hp;have hm:=G.hm;have hpm:=G.hq;have ht:=G.top;have hp2:=p_le hp hm hpm;have hm6:=m_le hp hpm;have hQ2:=yax hp hm;have hbp:=Pb.pos;have hbl:=Pb.lt;refine⟨_,(@yaa _ _ _ _ _ (@yaf _ _ 1 _ _ _ _ zaL.nd rfl (Or.inl rfl) (@zad _ _ _ _ _ _ _ _ _ _ _ xBJ hr #[] rfl (@zaa _ _ _ _ _ (@zao _ _ _ _ _ _ _ zax (pv 0) yac (λ_ _=>rfl)) (@zaa _ _ _ _ _ (@zao _ _ _ _ _ _ _ zax (pv 0) yac (λ_ _=>rfl)) zab ⋯) ⋯) #[] ⋯ ⋯) ⋯ (by trivial)) (@yaa _ _ _ _ _ (@zbI _ _ 2 3 _ _ _ _ _ _ _ _ _ _ _ rfl zaL.nd rfl rfl #[] rfl rfl (@zaa _ _ _ _ _ (@yaI _ _ _ _ zab) (@zaa _ _ _ _ _ yac zab ⋯) ⋯) rfl ⋯) (@yaa _ _ _ _ _ (@zaO _ _ _ _ _ _ xAi (@zai _ _ _ _ _ _ _ _ zhO (@zam _ _ _ _ _ _ _ _ _ zak rfl (B "len" #[]) xAR (@zaa _ _ _ _ _ (pv 2) zab ⋯) #[] #[] ⋯ ⋯) (@zag _ _ _ _ _ _ _ _ yaW (pv 1) yac) (yaj _)) (@yaa _ _ _ _ _ (@zel _ _ 3 2 4 _ _ _ _ _ _ _ _ _ _ _ _ _ _ rfl zaL.nd rfl rfl rfl #[] rfl rfl rfl (@zaa _ _ _ _ _ (@zag _ _ _ _ _ _ _ _ yav (pv 3) yac) (@zaa _ _ _ _ _ (@yaI _ _ _ _ (@zaa _ _ _ _ _ yac zab ⋯)) (@zaa _ _ _ _ _ (@zag _ _ _ _ _ _ _ _ yav (pv 3) yac) zab ⋯) ⋯) ⋯) rfl ⋯) (@yad _ _ _ (@zaO _ _ _ _ _ _ xAi (@zai _ _ _ _ _ _ _ _ ygu (pv 4) yac (yaj _)) (@yaa _ _ _ _ _ (@zbM _ _ _ _ (@ydV _ _ _ _ _ _ _ _ _ _ _ _ xBg xBn xBm zbc (pv 2) (@zaa _ _ _ _ _ (pv 4) zab ⋯) ⋯ ⋯ ⋯ ⋯ ⋯) ⋯) (@yad _ _ _ (@yaf _ _ 4 _ _ _ _ zaL.nd rfl (Or.inl rfl) (@zad _ _ _ _ _ _ _ _ _ _ _ xBH hr #[] rfl (@zaa _ _ _ _ _ (pv 0) (@zaa _ _ _ _ _ (pv 4) (@zaa _ _ _ _ _ (pv 3) zab ⋯) ⋯) ⋯) #[] ⋯ ⋯) ⋯ (by trivial)))))))) (@yaa _ _ _ _ _ (@yaf _ _ 5 _ _ _ _ zaL.nd rfl (Or.inl rfl) (@yaq _ _ _ _ _ _ _ _ _ (zcY rfl) rfl (B "dict" #[]) yee (@zaa _ _ _ _ _ (@zaI _ _ _ _ _ _ _ ["_law_at","_law_thing"] [] [] _ _ _ _ (id (α:=CSc ["_law_field_here","_law_many","_law_powers","_law_base","_law_thing","_law_logs"] (zae zbk) ["_law_at","_law_thing"] [] [] _) ⟨by rfl,∅,∅,∅,∅,by rfl,∅⟩) rfl (@ybz _ _ _ _ _ _ _ _ rfl (B "enumerate" #[]) (@zaa _ _ _ _ _ (pv 2) zab ⋯) ⋯) (λcl C fp s H=>(@yen _ _ _ _ 2 _ K rfl rfl (@yag _ _ _ _ _ (@yae _ _ 0 _ (by show List.Nodup (["_law_at","_law_thing"]:List Str);decide +kernel) rfl (Or.inl rfl) (by trivial)) (@yag _ _ _ _ _ (@yae _ _ 1 _ (by show List.Nodup (["_law_at","_law_thing"]:List Str);decide +kernel) rfl (Or.inl rfl) (by trivial)) yaE ⋯) ⋯) ⋯ ⋯)) (λ_ _ _ _ _=>yaD) (λ_ _ _ _ _=>(@zaV _ _ _ _ _ (@zaa _ _ _ _ _ (pv 1) (@zaa _ _ _ _ _ (pv 0) zab ⋯) ⋯))) (by intro _;rfl)) zab ⋯) #[] #[] ⋯ ⋯) ⋯ (by trivial)) (@yad _ _ _ (@yai _ _ _ _ (@yhk _ _ _ _ _ (@ybV _ _ _ _ _ _ _ _ _ yaN (pv 0) (@ybV _ _ _ _ _ _ _ _ _ yaN (@zao _ _ _ _ _ _ _ zax (pv 0) yac (λ_ _=>rfl)) (@ybV _ _ _ _ _ _ _ _ _ yaN (@zao _ _ _ _ _ _ _ zax (pv 0) yac (λ_ _=>rfl)) (@ybV _ _ _ _ _ _ _ _ _ yaN (pv 1) (@ybV _ _ _ _ _ _ _ _ _ yaN (pv 2) (@ybV _ _ _ _ _ _ _ _ _ yaN (pv 5) zhT)))))) rfl rfl (λh=>nomatch h) #[]))))))),?_⟩
 refine⟨_,rfl,fa,_,_,_,rfl,rfl,SqT.of hf,rfl,?_⟩;refine⟨_,rfl,fa,_,_,_,rfl,rfl,SqT.of hf,rfl,?_⟩;refine⟨p,m,rfl,hp2,(),?_⟩;refine⟨szl 0,λl0 hl0=>⟨_,_,rfl,?_⟩⟩;dsimp only[];refine zbf (λσ H'=>Same H H'/\∃pa s4,H pa=none/\H' pa=some (.lst ((Pws p m t b).map Vn))/\σ=[some (.ref fa),some (Vn (p^m)),some (.ref pa),some (Vn b),s4,none]) ?_ ?_
 ·rintro σ H1 ⟨s1,pa,s4,npa,epa,rfl⟩;refine⟨_,rfl,false,pa,rfl,⟨_,SqL.of epa⟩,?_⟩;refine zav (zaW (b:=false) (xs:=(Pws p m t b).map Vn)) (λk acc H'=>Same H1 H'/\∃ts:List Addr,ts.length=k/\acc=ts.map V.ref/\∀j a,ts[j]?=some a->H' a=some (.tup [Vn (pw p m t b j),Vn j])) ⟨Same.refl _,[],rfl,rfl,λj a e=>by simp at e⟩ (λi acc H' _ h=>SqL.of (h.1 _ _ epa)) ?_ ?_ ?_
  ·rintro k acc H' hk ⟨_,ts,e,rfl,_⟩;rw[xA1,yds]at hk;rw[xA1,e];exact zal ()
  ·rintro k acc x H2 H3 hk ⟨s2,ts,e,rfl,hts⟩ ⟨T,u,rfl,eu,hT,rfl⟩;rw[xA1,yds]at hk;have eu2:u=Vn (pw p m t b k):=by
    unfold Pws at eu;rw[xA9,xA9,xB2 hk]at eu;exact(xAw eu).symm
   subst eu2;refine⟨T,_,rfl,SqT.of yab,rfl,_,_,rfl,_,_,rfl,rfl,?_⟩;refine⟨_,rfl,_,rfl,szl 2,λa ha=>?_⟩;have sA:=(zac hT (.tup [.int (k:Int),Vn (pw p m t b k)])).trans (zac ha (.tup [Vn (pw p m t b k),Vn k]));refine⟨s2.trans sA,ts++[a],by simp[e],by simp,λj a' ej=>?_⟩;rw[List.getElem?_append]at ej;split at ej
   ·exact sA _ _ (hts j a' ej)
   ·rename_i h;have hj:j=k:=by
     have:=(xAo.mp ej).1;simp at this;omega
    subst hj;simp[e]at ej;subst ej;exact yab
  ·rintro acc H2 ⟨s2,ts,e,rfl,hts⟩ D hD;rw[xA1,yds]at e;have sB:=zac hD (.lst (ts.map V.ref));refine⟨D,ts,Logs p m t b,rfl,yab,by rw[e];simp[Logs],by simp only[Logs,xA1,xAt];exact szl _ (),λj a kv ej ek=>?_,?_,λla hla=>?_⟩
   ·have hj:j<p^m-1:=by have:=(xAo.mp ej).1;omega
    unfold Logs at ek;rw[xA9,xB2 hj]at ek;cases ek;exact sB _ _ (hts j a ej)
   ·unfold Logs;rw[List.map_map];refine zbd _ λi j hi hj e=>G.inj Pb i j hi hj ?_
    have e:Sum.inl ((pw p m t b i:Nat):Int)=(Sum.inl ((pw p m t b j:Nat):Int):Key):=e;injection e with e;omega
   ·intro tb htb;have s3:Same H1 (upd (upd H2 D (.lst (ts.map V.ref))) la (.dK (Logs p m t b))):=(s2.trans sB).trans (zac hla _);have s4:=s3.trans (zac htb (.dK []));have s5:=s1.trans s4;refine⟨_,rfl,_,rfl,fa,_,_,_,rfl,rfl,SqT.of (s5 _ _ hf),rfl,?_⟩;refine⟨_,rfl,fa,_,_,_,rfl,rfl,SqT.of (s5 _ _ hf),rfl,?_⟩;refine⟨_,rfl,_,rfl,_,rfl,yab,tabD fa pa la p m,rfl,by show 6<=15;decide,?_⟩;rw[yek,zfu];have s6:=s3.trans (zac htb (.dK (tabD fa pa la p m)));have s7:=s1.trans s6;have old:∀a,H1 a=none->H a=none:=λa ha=>by
     cases e:H a with
     |none=>rfl
     |some o=>rw[s1 _ _ e]at ha;cases ha
    have old2:∀a,upd H2 D (.lst (ts.map V.ref)) a=none->H a=none:=λa ha=>by
     cases e:H a with
     |none=>rfl
     |some o=>rw[(s2.trans sB) _ _ (s1 _ _ e)]at ha;cases ha
    refine q tb pa la b _ ?_ npa (old2 la hla) ⟨yab,s7 _ _ hf,s6 _ _ epa,(zac htb _) _ _ yab,G,Pb⟩ s7;cases e:H tb with
    |none=>rfl
    |some o=>rw[s3 _ _ (s1 _ _ e)]at htb;cases htb
 ·intro D' _ _ _ hD;refine yaO (λσ H'=>Same H H'/\∃base pa s4,H pa=none/\σ=[some (.ref fa),some (Vn (p^m)),some (.ref pa),some (Vn base),s4,none]/\∃L:List Nat,H' pa=some (.lst (L.map Vn))/\((base=b/\L=Pws p m t b)\/(base<b/\L.length<p^m-1)))
   (λσ _=>b-mI σ 3) ⟨zac hl0 _,0,l0,none,hl0,rfl,[],yab,.inr ⟨hbp,by show 0<p^m-1;omega⟩⟩ ?_
  rintro σ H1 ⟨s1,bs,pa,s4,npa,rfl,L,ePa,hL⟩;refine⟨_,rfl,pa,_,rfl,.inl (SqL.of ePa),?_⟩;refine⟨_,rfl,_,_,rfl,rfl,_,_,rfl,rfl,_,rfl,?_⟩;rw[xA1];refine ite2 (λc=>?_) (λc=>?_)
  ·have c':L.length<p^m-1:=by have:=xAh c;omega
   have hlt:bs<b:=by
    rcases hL with⟨rfl,rfl⟩|h
    ·rw[yds]at c';omega
    ·exact h.1
   refine⟨λσ' H'=>Same H H'/\∃pa s4,H pa=none/\σ'=[some (.ref fa),some (Vn (p^m)),some (.ref pa),some (Vn (bs+1)),s4,none]/\∃L:List Nat,H' pa=some (.lst (L.map Vn))/\((bs+1=b/\L=Pws p m t b)\/(bs+1<b/\L.length<p^m-1)),?_,?_⟩
   ·rintro σ' H' ⟨s2,pa2,s5,n2,rfl,L2,e2,h2⟩;refine⟨_,?_,rfl,s2,bs+1,pa2,s5,n2,rfl,L2,e2,h2⟩;show b-(bs+1)<b-bs;omega
   refine⟨_,rfl,_,_,rfl,rfl,?_⟩;refine⟨szl 1,λl1 hl1=>?_⟩;refine⟨_,rfl,_,_,rfl,rfl,_,_,_,rfl,?_⟩;have n1:H l1=none:=by
    cases e:H l1 with
    |none=>rfl
    |some o=>rw[s1 _ _ e]at hl1;cases hl1
   have hb1:bs+1<p^m:=by omega
   have nfa:fa≠l1:=zaf hf n1;refine yaO (λσ H'=>zaq l1 l1 H1 H'/\∃k,1<=k/\k<=p^m-1/\σ=[some (.ref fa),some (Vn (p^m)),some (.ref l1),some (Vn (bs+1)),some (Vn (pw p m t (bs+1) k)),none]/\H' l1=some (.lst (((List.range k).map (pw p m t (bs+1))).map Vn))/\∀i,0<i->i<k->pw p m t (bs+1) i≠1)
    (λ_ H'=>p^m-ydK H' l1) ⟨Same.x (zac hl1 _),1,(),(),?_,yab,λi h1 h2=>by omega⟩ ?_
   ·rw[ybY hp hm hb1];rfl
   rintro σ H2 ⟨sx2,k,hk1,hk2,rfl,e2,hne⟩;have hlen:ydK H2 l1=k:=by rw[zbV e2];simp
   refine⟨_,rfl,rfl,_,rfl,?_⟩;refine ite2 (λc=>?_) (λc=>?_)
   ·have hk:pw p m t (bs+1) k≠1:=by
     intro e;rw[e]at c;exact absurd c #[]
    have hk3:k<p^m-1:=by
     rcases xAN k (p^m-1) with h|h
     ·exact h
     ·have:k=p^m-1:=by omega
      rw[this]at hk;exact absurd (G.fermat () hb1) hk
    have hf2:H2 fa=some (.tup [Vn p,Vn m,Vn t]):=sx2 _ _ nfa nfa (s1 _ _ hf);have e3:((List.range k).map (pw p m t (bs+1))).map Vn++[Vn (pw p m t (bs+1) k)]=((List.range (k+1)).map (pw p m t (bs+1))).map Vn:=by
     rw[xBa,xA8,xA8];rfl
    refine⟨λσ' H'=>zaq l1 l1 H1 H'/\σ'=[some (.ref fa),some (Vn (p^m)),some (.ref l1),some (Vn (bs+1)),some (Vn (pw p m t (bs+1) (k+1))),none]/\H' l1=some (.lst (((List.range (k+1)).map (pw p m t (bs+1))).map Vn)),?_,?_⟩
    ·rintro σ' H' ⟨a1,rfl,a3⟩;have hl2:ydK H' l1=k+1:=by rw[zbV a3];simp
     refine⟨_,?_,rfl,a1,k+1,(),(),rfl,a3,λi h1 h2=>?_⟩
     ·show p^m-ydK H' l1<p^m-ydK H2 l1;rw[hl2,hlen];omega
     ·rcases xAN i k with h|h
      ·exact hne i h1 h
      ·rw[show i=k by omega];exact hk
    refine⟨_,rfl,.inl ⟨rfl,_,SqL.of e2⟩,_,rfl,?_⟩;refine⟨l1,_,_,rfl,rfl,e2,by simp only[xA1,xAt];exact zal (),?_⟩;rw[e3];have s3:zaq l1 l1 H1 (upd H2 l1 (.lst (((List.range (k+1)).map (pw p m t (bs+1))).map Vn))):=yfW sx2;refine⟨_,rfl,_,rfl,_,rfl,fa,p,m,t,pw p m t (bs+1) k,bs+1,rfl,SqT.of (by rw[zah nfa];exact hf2),hp,hm,hpm,ht,zaA hp hm _ _,hb1,λr H4 s4' br hr=>?_⟩;have e:=zbH hp hm br hr;subst e;exact⟨s3.trans (Same.x s4'),rfl,s4' _ _ yab⟩
   ·have hk:pw p m t (bs+1) k=1:=by
     rcases Nat.decEq (pw p m t (bs+1) k) 1 with h|h
     ·exfalso
      refine c ?_;rw[xBw];rfl;intro e;injection e with e;exact h ()
     ·exact h
    refine⟨(s1.trans (ydE (sx2) hl1)),l1,_,n1,rfl,_,e2,?_⟩;rcases xAN (bs+1) b with h|h
    ·refine .inr ⟨h,?_⟩;obtain⟨i,i0,i1,ie⟩:=Pb.low (bs+1) () h;simp only[xA1,xAt];rcases xAN i k with h3|h3
     ·exact absurd ie (hne i i0 h3)
     ·omega
    ·have hbb:bs+1=b:=by omega
     refine .inl ⟨hbb,?_⟩;rw[hbb]at hk ⊢;have:k=p^m-1:=by
      rcases xAN k (p^m-1) with h3|h3
      ·exact absurd hk (Pb.min k () h3)
      ·omega
     rw[this];rfl
  ·have c':¬ L.length<p^m-1:=by
    intro h;exact c (xAz ())
   rcases hL with⟨rfl,rfl⟩|h
   ·exact hD _ _ ⟨s1,pa,s4,npa,ePa,rfl⟩
   ·exact absurd h.2 c'
theorem zhn{fa pa la:Addr}{p m:Nat}:valV (tabD fa pa la p m) (.inr "p")=some (Vn p):=rfl
theorem yij{fa pa la:Addr}{p m:Nat}:valV (tabD fa pa la p m) (.inr "m")=some (Vn m):=rfl
theorem ycG{fa pa la:Addr}{p m:Nat}:valV (tabD fa pa la p m) (.inr "many")=some (Vn (p^m)):=rfl
theorem zdh{fa pa la:Addr}{p m:Nat}:valV (tabD fa pa la p m) (.inr "powers")=some (.ref pa):=rfl
theorem ydJ{fa pa la:Addr}{p m:Nat}:valV (tabD fa pa la p m) (.inr "logs")=some (.ref la):=rfl
theorem zfZ{fa pa la:Addr}{p m:Nat}:valV (tabD fa pa la p m) (.inr "field")=some (.ref fa):=rfl
theorem Tab.get{H:Hp}{tb fa pa la:Addr}{p m t b:Nat}(T:Tab H tb fa pa la p m t b){x:Str}{v:V}(h:valV (tabD fa pa la p m) (.inr x)=some v):DGet H tb (.str x) (some v):=by
 rw[<-h];exact DGet.k (k:=.inr x) T.d
theorem Tab.log{H:Hp}{tb fa pa la:Addr}{p m t b:Nat}(T:Tab H tb fa pa la p m t b){i:Nat}(h:i<p^m-1):DGet H la (Vn (pw p m t b i)) (some (Vn i)):=by
 have e:valV (Logs p m t b) (.inl ((pw p m t b i:Nat):Int))=some (Vn i):=by
  unfold Logs;refine yfv _ _ rfl (λi j hi hj e=>T.good.inj T.prim i j hi hj ?_) i h;injection e with e;omega
 rw[<-e];exact DGet.k (k:=.inl ((pw p m t b i:Nat):Int)) T.l
theorem yhZ(x y i:Nat):dg 2 i (x ^^^ y)=(dg 2 i x+dg 2 i y)%2:=by
 have e:∀z,dg 2 i z=(z.testBit i).toNat:=λz=>by unfold dg;rw[Nat.toNat_testBit]
 rw[e,e,e,Nat.testBit_xor];cases x.testBit i <;> cases y.testBit i <;> rfl
theorem zhJ:∀x:Nat,x<64->∀y:Nat,y<64->Builtin.bitXor (x:Int) (y:Int)=((x ^^^ y:Nat):Int):=by decide +kernel
theorem yby(x:Nat):decide (Vn x=V.int 0)=decide (x=0):=decide_eq_decide.mpr ⟨λe=>by injection e with e;omega,λe=>by rw[e];rfl⟩
noncomputable def zeQ:Sp:=λvs H Q _=>∃(tb fa pa la:Addr) (p m t b x y:Nat),vs=[.ref tb,Vn x,Vn y]/\Tab H tb fa pa la p m t b/\x<p^m/\y<p^m/\Q (Vn (add p m x y)) H
theorem zbj:yah ["_law_table_here","_law_one","_law_other","_law_p","_law_found","_law_place"] ["_law_table_here","_law_one","_law_other"] (zae yb2):=⟨rfl,rfl,rfl,∅,rfl,∅,∅⟩
theorem yg0(B:Bl mg)(F:Fun K "_law_plus" "_law_plus" yb2 f fd):FnOk P w K mg base CX0 1 f fd ["_law_table_here","_law_one","_law_other"] zeQ:=by
 refine F.ok zbj (λvs H Q E h=>?_) (λcdv A outer s H vs Q E hr h=>?_)
 ·obtain⟨tb,fa,pa,la,p,m,t,b,x,y,rfl,_⟩:=h;rfl
 obtain⟨tb,fa,pa,la,p,m,t,b,x,y,rfl,T,hx,hy,q⟩:=h;have hp:=T.good.hp;have hm:=T.good.hm;refine⟨_,(@yaa _ _ _ _ _ (@zel _ _ 3 4 5 _ _ _ _ _ _ _ _ _ _ _ _ _ _ rfl zbj.nd rfl rfl rfl #[] rfl rfl rfl (@zaa _ _ _ _ _ (@zaH _ _ _ _ _ _ (ybG hr) (pv 0) yaN (λ_ _=>rfl)) (@zaa _ _ _ _ _ yac (@zaa _ _ _ _ _ yac zab ⋯) ⋯) ⋯) rfl ⋯) (@yaa _ _ _ _ _ (@yaS _ _ _ _ _ _ _ _ (@zai _ _ _ _ _ _ _ _ za4 (pv 3) yac (yaj _)) (@yad _ _ _ (@yai _ _ _ _ (@zag _ _ _ _ _ _ _ _ zic (pv 1) (pv 2)))) zas) (@yaa _ _ _ _ _ (@zaO _ _ _ _ _ _ xAi (@zai _ _ _ _ _ _ _ _ yb3 (@zag _ _ _ _ _ _ _ _ yav (pv 1) (pv 2)) yac (yaj _)) (@yaa _ _ _ _ _ (@yaf _ _ 4 _ _ _ _ zbj.nd rfl (Or.inl rfl) (@zag _ _ _ _ _ _ _ _ yav (pv 4) (@zag _ _ _ _ _ _ _ _ yaR (@zag _ _ _ _ _ _ _ _ zaC (@zag _ _ _ _ _ _ _ _ yav (pv 1) (pv 2)) (pv 3)) (pv 5))) ⋯ (by trivial)) (@yad _ _ _ (@zel _ _ 1 2 5 _ _ _ _ _ _ _ _ _ _ _ _ _ _ rfl zbj.nd rfl rfl rfl #[] rfl rfl rfl (@zaa _ _ _ _ _ (@zag _ _ _ _ _ _ _ _ ycK (pv 1) (pv 3)) (@zaa _ _ _ _ _ (@zag _ _ _ _ _ _ _ _ ycK (pv 2) (pv 3)) (@zaa _ _ _ _ _ (@zag _ _ _ _ _ _ _ _ yaR (pv 5) (pv 3)) zab ⋯) ⋯) ⋯) rfl ⋯)))) (@yad _ _ _ (@yai _ _ _ _ (pv 4)))))),?_⟩;refine⟨_,rfl,tb,_,rfl,T.get zhn,_,_,_,rfl,?_⟩;refine⟨_,rfl,rfl,_,rfl,?_⟩;refine ite2 (λc=>?_) (λc=>?_)
 ·have hp2:p=2:=by
   have e:=xAh c;injection e with e;omega
  subst hp2;refine⟨_,rfl,_,rfl,_,_,rfl,rfl,?_⟩;have e:V.int (Builtin.bitXor (x:Int) (y:Int))=Vn (add 2 m x y):=by
   show V.int _=V.int _;congr 1;rw[zhJ x (by have:=T.good.hq;omega) y (by have:=T.good.hq;omega)];congr 1;exact ydn hp hm hx hy λi=>yhZ x y i
  show Q (V.int (Builtin.bitXor (x:Int) (y:Int))) _;rw[e];exact q
 ·refine yaO (λσ H'=>H'=H/\∃(k o u tt:Nat),σ=[some (.ref tb),some (Vn o),some (Vn u),some (Vn p),some (Vn tt),some (Vn (p^k))]/\o=x/p^k/\u=y/p^k/\tt<p^k/\∀i,i<k->dg p i tt=(dg p i x+dg p i y)%p)
   (λσ _=>mI σ 1+mI σ 2) ⟨rfl,0,x,y,0,rfl,by simp,by simp,by simp,λi hi=>absurd hi (Nat.not_lt_zero _)⟩ ?_
  rintro σ H' ⟨rfl,k,o,u,tt,rfl,ho,hu,ht,hd⟩;have hp64:=p_le hp hm T.good.hq;have pk:0<p^k:=xB7 ();refine⟨_,rfl,_,rfl,_,_,rfl,rfl,_,_,rfl,rfl,_,rfl,?_⟩;refine ite2 (λc=>?_) (λc=>?_)
  ·have c':0<o+u:=by have:=xAh c;omega
   refine⟨λσ' H''=>H''=H'/\σ'=[some (.ref tb),some (Vn (o/p)),some (Vn (u/p)),some (Vn p),some (Vn (tt+(o+u)%p*p^k)),some (Vn (p^k*p))],?_,?_⟩
   ·rintro σ' H'' ⟨rfl,rfl⟩;have l1:o/p<=o:=Nat.div_le_self _ _;have l2:u/p<=u:=Nat.div_le_self _ _;have l3:o/p<o\/u/p<u:=by
     rcases xAO o with h|h
     ·exact .inr (Nat.div_lt_self () ())
     ·exact .inl (Nat.div_lt_self h ())
    refine⟨_,?_,rfl,rfl,k+1,o/p,u/p,tt+(o+u)%p*p^k,rfl,?_,?_,?_,λi hi=>?_⟩
    ·show o/p+u/p<o+u;omega
    ·rw[ho,xAD,xBh]
    ·rw[hu,xAD,xBh]
    ·exact zfY ht (xAC _ ())
    ·rw[zfN hp ht (xAC _ ())];by_cases e:i=k
     ·rw[if_pos e,ho,hu,e];unfold dg;rw[Nat.add_mod]
     ·rw[if_neg e];exact hd i ()
   ·refine⟨_,rfl,_,rfl,_,rfl,_,_,rfl,rfl,_,rfl,_,_,rfl,rfl,?_⟩;refine⟨by show(0:Int)<p;omega,_,rfl,_,_,rfl,rfl,?_⟩;have hmm:(o+u)%p<p:=xAC _ ();refine⟨.inl ⟨by show -(2^64:Int)<(((o+u)%p:Nat):Int);omega,by show(((o+u)%p:Nat):Int)<2^64;omega⟩,_,_,rfl,rfl,?_⟩;refine⟨_,rfl,_,rfl,_,_,rfl,rfl,⟨by show(0:Int)<p;omega,by show(p:Int)<2^64;omega⟩,?_⟩;refine⟨_,rfl,_,rfl,_,_,rfl,rfl,⟨by show(0:Int)<p;omega,by show(p:Int)<2^64;omega⟩,?_⟩;refine⟨_,rfl,_,rfl,_,_,rfl,rfl,.inr ⟨by show -(2^64:Int)<p;omega,by show(p:Int)<2^64;omega⟩,?_⟩;exact⟨_,_,_,rfl,rfl,rfl⟩
  ·have c':o=0/\u=0:=by
    have:¬ (0:Int)<(o:Int)+(u:Int):=λh=>c (xAz h)
    omega
   refine⟨_,rfl,?_⟩;have e:tt=add p m x y:=ydn hp hm hx hy λi=>by
    by_cases e:i<k
    ·exact hd i e
    ·have hx:x<p^k:=by
      rcases xAN x (p^k) with h|h
      ·exact h
      ·have:=Nat.div_pos h pk;omega
     have hy:y<p^k:=by
      rcases xAN y (p^k) with h|h
      ·exact h
      ·have:=Nat.div_pos h pk;omega
     rw[yas hp ht (),yas hp hx (),yas hp hy ()];simp
   subst e;exact q
noncomputable def yb5:Sp:=λvs H Q _=>∃(tb fa pa la:Addr) (p m t b x y:Nat),vs=[.ref tb,Vn x,Vn y]/\Tab H tb fa pa la p m t b/\x<p^m/\y<p^m/\Q (Vn (mul p m t x y)) H
theorem zb9:yah ["_law_table_here","_law_one","_law_other","_law_at"] ["_law_table_here","_law_one","_law_other"] (zae zbJ):=⟨rfl,rfl,rfl,∅,rfl,∅,∅⟩
theorem zf6(B:Bl mg)(F:Fun K "_law_times" "_law_times" zbJ f fd):FnOk P w K mg base CX0 1 f fd ["_law_table_here","_law_one","_law_other"] yb5:=by
 refine F.ok zb9 (λvs H Q E h=>?_) (λcdv A outer s H vs Q E hr h=>?_)
 ·obtain⟨tb,fa,pa,la,p,m,t,b,x,y,rfl,_⟩:=h;rfl
 obtain⟨tb,fa,pa,la,p,m,t,b,x,y,rfl,T,hx,hy,q⟩:=h;have hp:=T.good.hp;have hm:=T.good.hm;refine⟨_,(@yaa _ _ _ _ _ (@yaS _ _ _ _ _ _ _ _ (@PW.pt _ _ _ (@yfp _ _ _ _ _ _ _ (@zai _ _ _ _ _ _ _ _ za4 (pv 1) yac (yaj _)) (@zde _ _ _ _ (@zai _ _ _ _ _ _ _ _ za4 (pv 2) yac (yaj _))))) (@yad _ _ _ (@yai _ _ _ _ yac)) zas) (@yaa _ _ _ _ _ (@yaf _ _ 3 _ _ _ _ zb9.nd rfl (Or.inl rfl) (@zag _ _ _ _ _ _ _ _ yav (@zaH _ _ _ _ _ _ (ybG hr) (@zaH _ _ _ _ _ _ (ybG hr) (pv 0) yaN (λ_ _=>rfl)) (pv 1) (λ_ _=>rfl)) (@zaH _ _ _ _ _ _ (ybG hr) (@zaH _ _ _ _ _ _ (ybG hr) (pv 0) yaN (λ_ _=>rfl)) (pv 2) (λ_ _=>rfl))) ⋯ (by trivial)) (@yad _ _ _ (@yai _ _ _ _ (@zao _ _ _ _ _ _ _ yan (@zaH _ _ _ _ _ _ (ybG hr) (pv 0) yaN (λ_ _=>rfl)) (@zag _ _ _ _ _ _ _ _ zaC (pv 3) (@zag _ _ _ _ _ _ _ _ yaW (@zaH _ _ _ _ _ _ (ybG hr) (pv 0) yaN (λ_ _=>rfl)) yac)) (λ_ _=>rfl)))))),?_⟩;refine yhb (b1:=decide (x=0)) (b2:=decide (y=0)) (λQ q=>⟨_,rfl,rfl,_,rfl,?_⟩) (λQ q=>⟨_,rfl,rfl,_,rfl,?_⟩) ?_
 ·rw[yby];exact q
 ·rw[yby];exact q
 refine ite2 (λc=>?_) (λc=>?_)
 ·have e:mul p m t x y=0:=by
   simp only[Bool.or_eq_true,xBv]at c;rcases c with rfl|rfl
   ·exact zero_mul hp hm _
   ·exact mul_zero hp hm _
  rw[e]at q;exact q
 ·simp only[Bool.or_eq_true,xBv,not_or]at c;obtain⟨i,hi,ei⟩:=T.prim.all x () hx;obtain⟨j,hj,ej⟩:=T.prim.all y () hy;have hQ2:=yax hp hm;have hQ:=T.good.hq;have gi:=T.log hi;have gj:=T.log hj;rw[ei]at gi;rw[ej]at gj;refine⟨_,rfl,tb,_,rfl,T.get ydJ,_,rfl,la,_,rfl,gi,?_⟩;refine⟨_,rfl,tb,_,rfl,T.get ydJ,_,rfl,la,_,rfl,gj,_,_,rfl,rfl,?_⟩;refine⟨_,rfl,tb,_,rfl,T.get zdh,?_⟩;refine⟨_,rfl,_,rfl,tb,_,rfl,T.get ycG,_,_,rfl,rfl,_,_,rfl,rfl,by show(0:Int)<((p^m:Nat):Int)-1;omega,?_⟩;have ek:((i:Int)+(j:Int))%(((p^m:Nat):Int)-1)=(((i+j)%(p^m-1):Nat):Int):=by
   rw[Int.natCast_emod,Int.natCast_add,Int.natCast_sub ()];rfl
  have hk:(i+j)%(p^m-1)<p^m-1:=xAC _ ();refine⟨pa,_,_,Vn (pw p m t b ((i+j)%(p^m-1))),rfl,rfl,SqL.of T.w,?_,?_⟩
  ·show atI _ (((i:Int)+(j:Int))%(((p^m:Nat):Int)-1))=_;rw[ek];exact yaZ (by unfold Pws;rw[xA9,xA9,xB2 hk];rfl)
  ·have e:pw p m t b ((i+j)%(p^m-1))=mul p m t x y:=by
    rw[T.good.pw_mod T.prim.pos T.prim.lt,ya6 hp hm,ei,ej]
   rw[e];exact q
end
end My
end
section
-- text: P9
namespace My
open PySem L2 Dg
theorem yay{ws:List Nat}{i:Nat}(h:i<ws.length):(ws.map Vn)[i]?=some (Vn (ws.getD i 0)):=by
 rw[xA9,xA7 h];simp[List.getD,h]
theorem yaM{xs:List Nat}{n i:Nat}(h:∀x∈xs,x<n)(hi:i<xs.length):xs.getD i 0<n:=by
 have e:xs.getD i 0=xs[i]:=by simp[List.getD,hi]
 rw[e];exact h _ (List.getElem_mem hi)
theorem zbB{H H':Hp}{l:Addr}{o:HO}(s:Same H H')(h:H l=none):Same H (upd H' l o):=λb u e=>by rw[zah (zaf e h)];exact s _ _ e
theorem mapI(ns:List Nat):(ns.map λn:Nat=>(n:Int)).map V.int=ns.map Vn:=by rw[List.map_map];rfl
structure zg1(pu g tb fa pa la:Addr):Prop where
 a1:tb≠pu
 a2:tb≠g
 b1:fa≠pu
 b2:fa≠g
 c1:pa≠pu
 c2:pa≠g
 d1:la≠pu
 d2:la≠g
theorem Tab.x{H H':Hp}{pu g tb fa pa la:Addr}{p m t b:Nat}(T:Tab H tb fa pa la p m t b)(a:zg1 pu g tb fa pa la)(s:zaq pu g H H'):Tab H' tb fa pa la p m t b :=
 ⟨s _ _ a.a1 a.a2 T.d,s _ _ a.b1 a.b2 T.f,s _ _ a.c1 a.c2 T.w,s _ _ a.d1 a.d2 T.l,T.good,T.prim⟩
noncomputable def trim:List Nat->List Nat
 | []=>[]
 |x::xs=>match trim xs with
  | []=>if x=0 then [] else [x]
  |r=>x::r
theorem yca:∀l:List Nat,trim (l++[0])=trim l
 | []=>rfl
 |x::xs=>by
  show(match trim (xs++[0]) with | []=>_|r=>_)=(match trim xs with | []=>_|r=>_)
  rw[yca xs]
theorem zcX{x:Nat}(h:x≠0):∀l:List Nat,trim (l++[x])=l++[x]
 | []=>by show(if x=0 then [] else [x])=[x];rw[if_neg h]
 |y::xs=>by
  show(match trim (xs++[x]) with | []=>_|r=>_)=y::(xs++[x]);rw[zcX h xs];cases xs <;> rfl
theorem zbR{l:List Nat}{e:Nat}(h:e<l.length):l.take (e+1)=l.take e++[l.getD e 0]:=by
 rw[List.take_add_one,xA7 h];simp[List.getD,h]
theorem yer:∀l:List Nat,(trim l).length<=l.length
 | []=>xA4 _
 |x::xs=>by
  have ih:=yer xs;show(match trim xs with | []=>if x=0 then [] else [x]|r=>x::r).length<=xs.length+1;split
  ·split <;> simp
  ·rename_i e;rw[xB8];omega
theorem ycz:∀(l:List Nat) (x:Nat),x∈trim l->x∈l
 | [],x,h=>h
 |y::xs,x,h=>by
  have h:x∈(match trim xs with | []=>if y=0 then [] else [y]|r=>y::r):=h;split at h
  ·split at h
   ·simp at h
   ·simp at h;simp[h]
  ·rcases xAa.mp h with h|h
   ·simp[h]
   ·exact xAd _ (ycz xs x h)
theorem yeg:∀l:List Nat,trim (trim l)=trim l
 | []=>rfl
 |x::xs=>by
  have ih:=yeg xs;cases e:trim xs with
  |nil=>
   have e2:trim (x::xs)=if x=0 then [] else [x]:=by show(match trim xs with | []=>_|r=>_)=_;rw[e]
   rw[e2];by_cases h:x=0
   ·rw[if_pos h];rfl
   ·rw[if_neg h];show(if x=0 then [] else [x])=[x];rw[if_neg h]
  |cons y r=>
   have e2:trim (x::xs)=x::y::r:=by show(match trim xs with | []=>_|r=>_)=_;rw[e]
   rw[e2];rw[e]at ih;show(match trim (y::r) with | []=>_|r=>_)=_;rw[ih]
section
variable {P:Program} {w:World} {K:PySem.W.Frag} {mg:Str->Option Value} {base:Heap} {f:Addr} {fd:FuncData}
theorem zgD(xs:List V)(e:Nat)(h:e<=xs.length):cutV xs none (some (e:Int))=xs.take e:=by
 have h1:HT.sIx xs.length 0 none=0:=rfl;have h2:HT.sIx xs.length xs.length (some (e:Int))=e:=by
  simp only[HT.sIx];rw[if_neg ()];simp;omega
 unfold cutV;rw[h1,h2,List.drop_zero,Nat.sub_zero]
noncomputable def zdr(K:PySem.W.Frag):Sp:=λvs H Q _=>∃(a:Addr) (ns:List Nat),vs=[.ref a]/\SqL K H a (ns.map Vn)/\ns.length<=1000/\∀r H',Same H H'->H r=none->H' r=some (.tup ((trim ns).map Vn))->Q (.ref r) H'
theorem zcg:yah ["things","end"] ["things"] (zae zcT):=⟨rfl,rfl,rfl,∅,rfl,∅,∅⟩
end
end My
end
section
-- text: PA
namespace My
open PySem L2 Dg
noncomputable def zbG(p m t:Nat)(xs ys:List Nat)(i j:Nat):List Nat:=(List.range (xs.length+ys.length)).map λn=>add p m (ydF p m t xs ys i n) (if i<=n/\n-i<j then mul p m t (xs.getD i 0) (ys.getD (n-i) 0) else 0)
noncomputable def rmul(p m t:Nat)(xs ys:List Nat):List Nat:=trim ((List.range (xs.length+ys.length)).map (conv p m t xs ys))
section
variable {p m t:Nat} (hp:2<=p) (hm:1<=m)
include hp hm
theorem ycN(xs ys:List Nat)(i j:Nat):(zbG p m t xs ys i j).length=xs.length+ys.length:=by simp[zbG]
theorem zfj(xs ys:List Nat):zbG p m t xs ys 0 0=List.replicate (xs.length+ys.length) 0:=by
 unfold zbG;refine xAS (by simp) λn h1 h2=>?_
 simp only[List.getElem_map,List.getElem_range,List.getElem_replicate];rw[if_neg ()];exact add_zero hp hm (yao hp hm)
theorem yfk(xs ys:List Nat)(i:Nat):zbG p m t xs ys i ys.length=zbG p m t xs ys (i+1) 0:=by
 unfold zbG;refine xAE λn _=>?_
 rw[if_neg (show ¬ (i+1<=n/\n-(i+1)<0) by omega),add_zero hp hm (zcF hp hm _ _ _ _)];show _=add p m (ydF p m t xs ys i n) _;congr 1;dsimp only;by_cases h:i<=n
 ·rw[if_pos h];by_cases h2:n-i<ys.length
  ·rw[if_pos ⟨h,h2⟩]
  ·rw[if_neg (),yaB (xs:=ys) (),mul_zero hp hm]
 ·rw[if_neg (),if_neg h]
theorem zgo(xs ys:List Nat):zbG p m t xs ys xs.length 0=(List.range (xs.length+ys.length)).map (conv p m t xs ys):=by
 unfold zbG;refine xAE λn _=>?_
 rw[if_neg (),add_zero hp hm (zcF hp hm _ _ _ _),zgs hp hm]
theorem yfI{xs ys:List Nat}{i j:Nat}(hi:i<xs.length)(hj:j<ys.length):(zbG p m t xs ys i j).getD (i+j) 0=ydF p m t xs ys i (i+j):=by
 unfold zbG;rw[xAn,xA9,xB2 ()];show add p m _ (if _ then _ else 0)=_;rw[if_neg (),add_zero hp hm (zcF hp hm _ _ _ _)]
theorem ygm{xs ys:List Nat}{i j:Nat}(hi:i<xs.length)(hj:j<ys.length):(zbG p m t xs ys i j).set (i+j) (add p m (ydF p m t xs ys i (i+j)) (mul p m t (xs.getD i 0) (ys.getD j 0)))=zbG p m t xs ys i (j+1):=by
 refine xAS (by simp[ycN hp hm]) λn h1 h2=>?_
 rw[List.getElem_set];by_cases e:i+j=n
 ·subst e;rw[if_pos rfl];simp only[zbG,List.getElem_map,List.getElem_range];rw[if_pos (),show i+j-i=j by omega]
 ·rw[if_neg e];simp only[zbG,List.getElem_map,List.getElem_range];by_cases h:i<=n/\n-i<j
  ·rw[if_pos h,if_pos ()]
  ·rw[if_neg h,if_neg ()]
end
theorem zeE(l:List Nat)(i x:Nat):(l.map Vn).set i (Vn x)=(l.set i x).map Vn:=by rw[List.map_set]
theorem zfB{n j:Nat}(h:j<n):ixN n (j:Int)=some j:=by unfold ixN;rw[if_pos (),if_pos ()];rfl
theorem ycd(n:Nat):(List.replicate n [V.int 0]).flatten=(List.replicate n 0).map Vn:=by
 induction n with
 |zero=>rfl
 |succ n ih=>rw[xBb,List.flatten_cons,ih,xBb];rfl
section
variable {P:Program} {w:World} {K:PySem.W.Frag} {mg:Str->Option Value} {base:Heap} {f:Addr} {fd:FuncData}
noncomputable def zdU(K:PySem.W.Frag):Sp:=λvs H Q _=>∃(fa a b:Addr) (p m t:Nat) (xs ys:List Nat),vs=[.ref fa,.ref a,.ref b]/\Fld K H fa p m t/\Good p m t/\SqT K H a (xs.map Vn)/\SqT K H b (ys.map Vn)/\xs.length<=200/\ys.length<=200/\(∀x∈xs,x<p^m)/\(∀y∈ys,y<p^m)/\
 ∀r H',Same H H'->H r=none->H' r=some (.tup ((rmul p m t xs ys).map Vn))->Q (.ref r) H'
theorem zaS:yah ["field","one","other","product","i","a","j","b"] ["field","one","other"] (zae zb4):=⟨rfl,rfl,rfl,∅,rfl,∅,∅⟩
theorem yf8(B:Bl mg)(xC5:Has P w K mg base 1 "plus" ["field","one","other"] (zbO K))(xCc:Has P w K mg base 3 "times" ["field","one","other"] (zba K))(xCe:Has P w K mg base 1 "trimmed" ["things"] (zdr K))(F:Fun K "row_times" "row_times" zb4 f fd):FnOk P w K mg base CX0 4 f fd ["field","one","other"] (zdU K):=by
 refine F.ok zaS (λvs H Q E h=>?_) (λcdv A outer s H vs Q E hr h=>?_)
 ·obtain⟨fa,a,b,p,m,t,xs,ys,rfl,_⟩:=h;rfl
 obtain⟨fa,a,b,p,m,t,xs,ys,rfl,hF,G,ha,hb,lx,ly,hx,hy,q⟩:=h;have hp:=G.hp;have hm:=G.hm;have hp2:=p_le hp hm G.hq;refine⟨_,(@yaa _ _ _ _ _ (@yaf _ _ 3 _ _ _ _ zaS.nd rfl (Or.inl rfl) (@zag _ _ _ _ _ _ _ _ zdV (@yaI _ _ _ _ (@zaa _ _ _ _ _ yac zab ⋯)) (@zag _ _ _ _ _ _ _ _ yav (@zam _ _ _ _ _ _ _ _ _ zak rfl (B "len" #[]) xAR (@zaa _ _ _ _ _ (pv 1) zab ⋯) #[] #[] ⋯ ⋯) (@zam _ _ _ _ _ _ _ _ _ zak rfl (B "len" #[]) xAR (@zaa _ _ _ _ _ (pv 2) zab ⋯) #[] #[] ⋯ ⋯))) ⋯ (by trivial)) (@yaa _ _ _ _ _ (@zaF _ _ _ _ _ _ _ _ xAi rfl (@ybz _ _ _ _ _ _ _ _ rfl (B "enumerate" #[]) (@zaa _ _ _ _ _ (pv 1) zab ⋯) ⋯) (@zaX _ _ _ _ _ _ rfl (@yag _ _ _ _ _ (@yae _ _ 4 _ zaS.nd rfl (Or.inl rfl) (by trivial)) (@yag _ _ _ _ _ (@yae _ _ 5 _ zaS.nd rfl (Or.inl rfl) (by trivial)) yaE ⋯) ⋯) ⋯ ⋯) (@yad _ _ _ (@zaF _ _ _ _ _ _ _ _ xAi rfl (@ybz _ _ _ _ _ _ _ _ rfl (B "enumerate" #[]) (@zaa _ _ _ _ _ (pv 2) zab ⋯) ⋯) (@zaX _ _ _ _ _ _ rfl (@yag _ _ _ _ _ (@yae _ _ 6 _ zaS.nd rfl (Or.inl rfl) (by trivial)) (@yag _ _ _ _ _ (@yae _ _ 7 _ zaS.nd rfl (Or.inl rfl) (by trivial)) yaE ⋯) ⋯) ⋯ ⋯) (@yad _ _ _ (@za5 _ _ _ _ _ _ (@zad _ _ _ _ _ _ _ _ _ _ _ xC5 hr #[] rfl (@zaa _ _ _ _ _ (pv 0) (@zaa _ _ _ _ _ (@zao _ _ _ _ _ _ _ yan (pv 3) (@zag _ _ _ _ _ _ _ _ yav (pv 4) (pv 6)) (λ_ _=>rfl)) (@zaa _ _ _ _ _ (@zad _ _ _ _ _ _ _ _ _ _ _ xCc hr #[] rfl (@zaa _ _ _ _ _ (pv 0) (@zaa _ _ _ _ _ (pv 5) (@zaa _ _ _ _ _ (pv 7) zab ⋯) ⋯) ⋯) #[] ⋯ ⋯) zab ⋯) ⋯) ⋯) #[] ⋯ ⋯) (@zct _ _ _ _ _ _ _ (pv 3) (@zag _ _ _ _ _ _ _ _ yav (pv 4) (pv 6)) ybm (by intro _;rfl)) ⋯ ⋯ ⋯)) (by intro _;rfl))) (by intro _;rfl)) (@yad _ _ _ (@yai _ _ _ _ (@zad _ _ _ _ _ _ _ _ _ _ _ xCe hr #[] rfl (@zaa _ _ _ _ _ (pv 3) zab ⋯) #[] ⋯ ⋯))))),?_⟩;refine⟨szl 1,λl0 hl0=>?_⟩;have s0:=zac hl0 (.lst [V.int 0]);refine⟨_,rfl,a,_,rfl,.inr (Same.tup s0 ha),_,rfl,b,_,rfl,.inr (Same.tup s0 hb),_,_,rfl,rfl,?_⟩;have eN:(((xs.map Vn).length:Nat):Int)+(((ys.map Vn).length:Nat):Int)=((xs.length+ys.length:Nat):Int):=by simp
 refine⟨l0,_,_,rfl,rfl,yab,by rw[eN];omega,by rw[eN];omega,by rw[eN,xAm];exact szl _ (by simp;omega),λl hl=>?_⟩;rw[eN,xAm,ycd,<-zfj (t:=t) hp hm];have nl:=s0.free hl;have s1:=zbB (l:=l) (o:=.lst ((zbG p m t xs ys 0 0).map Vn)) s0 nl;refine⟨_,rfl,true,a,rfl,⟨_,Same.tup s1 ha⟩,?_⟩;refine yaK (zaW (b:=true) (xs:=xs.map Vn)) (λi σ H'=>Same H H'/\H' l=some (.lst ((zbG p m t xs ys i 0).map Vn))/\∃s4 s5 s6 s7,σ=[some (.ref fa),some (.ref a),some (.ref b),some (.ref l),s4,s5,s6,s7]) ⟨s1,yab,none,none,none,none,rfl⟩ (λi σ H' _ h=>Same.tup h.1 ha) ?_ ?_
 ·rintro i z σ H1 H2 hi ⟨sm,el,s4,s5,s6,s7,rfl⟩ ⟨T,u,rfl,eu,hT,rfl⟩;rw[xA1]at hi;rw[yay hi]at eu;cases eu;have sT:=zac hT (.tup [.int (i:Int),Vn (xs.getD i 0)]);refine⟨T,_,rfl,SqT.of yab,rfl,_,_,rfl,_,_,rfl,rfl,?_⟩;refine⟨_,rfl,true,b,rfl,⟨_,Same.tup (sm.trans sT) hb⟩,?_⟩;refine yaK (zaW (b:=true) (xs:=ys.map Vn)) (λj σ H'=>Same H H'/\H' l=some (.lst ((zbG p m t xs ys i j).map Vn))/\∃s6 s7,σ=[some (.ref fa),some (.ref a),some (.ref b),some (.ref l),some (Vn i),some (Vn (xs.getD i 0)),s6,s7]) ⟨sm.trans sT,sT _ _ el,_,_,rfl⟩ (λj σ H' _ h=>Same.tup h.1 hb) ?_ ?_
  ·rintro j z σ H3 H4 hj ⟨sm3,el3,s6,s7,rfl⟩ ⟨T2,u,rfl,eu,hT2,rfl⟩;rw[xA1]at hj;rw[yay hj]at eu;cases eu;have sT2:=zac hT2 (.tup [.int (j:Int),Vn (ys.getD j 0)]);have sm4:=sm3.trans sT2;refine⟨T2,_,rfl,SqT.of yab,rfl,_,_,rfl,_,_,rfl,rfl,?_⟩;have el4:=sT2 _ _ el3;refine⟨_,rfl,_,rfl,_,rfl,_,rfl,_,_,rfl,rfl,?_⟩;refine⟨l,_,((i+j:Nat):Int),Vn (ydF p m t xs ys i (i+j)),rfl,rfl,SqL.of el4,?_,?_⟩
   ·refine yaZ ?_;rw[yay (by rw[ycN hp hm];omega),yfI hp hm hi hj]
   refine⟨_,rfl,_,rfl,_,rfl,fa,p,m,t,xs.getD i 0,ys.getD j 0,rfl,Same.tup sm4 hF,hp,hm,G.hq,G.top,yaM hx hi,yaM hy hj,λr br h1=>?_⟩;cases zbH hp hm br h1;refine⟨fa,p,m,t,ydF p m t xs ys i (i+j),mul p m t (xs.getD i 0) (ys.getD j 0),rfl,Same.tup sm4 hF,hp,hp2,λr h2=>?_⟩;cases ydn hp hm (zcF hp hm _ _ _ _) (zaw hp hm _ _) h2;refine⟨_,rfl,_,rfl,_,rfl,_,_,rfl,rfl,?_⟩;refine⟨l,_,((i+j:Nat):Int),i+j,rfl,rfl,el4,?_,?_⟩
   ·rw[xA1,ycN hp hm];exact zfB ()
   ·rw[zeE,ygm hp hm hi hj];exact⟨zbB sm4 nl,yab,_,_,rfl⟩
  ·rw[xA1];rintro σ H3 ⟨sm3,el3,s6,s7,rfl⟩;rw[yfk hp hm]at el3;exact⟨sm3,el3,_,_,_,_,rfl⟩
 ·rw[xA1];rintro σ H1 ⟨sm,el,s4,s5,s6,s7,rfl⟩;rw[zgo hp hm]at el;refine⟨_,rfl,l,_,rfl,SqL.of el,by simp;omega,λr H2 s2 nr er=>?_⟩;exact q r _ (sm.trans s2) (sm.free nr) er
end
end My
end
section
-- text: PB
namespace My
open PySem L2 Dg
theorem ygp:∀l:List Nat,(∀i,l.getD i 0=0)->trim l=[]
 | [],_=>rfl
 |x::xs,h=>by
  have h0:x=0:=h 0;show(match trim xs with | []=>if x=0 then [] else [x]|r=>x::r)=[]
  rw[ygp xs λi=>by have:=h (i+1);simpa using this,if_pos h0]
theorem yed:∀(l:List Nat) (i:Nat),(trim l).getD i 0=l.getD i 0
 | [],i=>rfl
 |x::xs,i=>by
  have ih:=yed xs;show(match trim xs with | []=>if x=0 then [] else [x]|r=>x::r).getD i 0=_;cases e:trim xs with
  |nil=>
   rw[e]at ih;cases i with
   |zero=>
    by_cases h:x=0
    ·subst h;rfl
    ·dsimp only;rw[if_neg h];rfl
   |succ i=>
    have:=ih i;by_cases h:x=0
    ·subst h;simpa using this
    ·dsimp only;rw[if_neg h];simpa using this
  |cons y r=>
   rw[e]at ih;cases i with
   |zero=>rfl
   |succ i=>have:=ih i;simpa using this
theorem zd4{n:Nat}{f:Nat->Nat}(i:Nat):((List.range n).map f).getD i 0=if i<n then f i else 0:=by
 rw[xAn,xA9];by_cases h:i<n
 ·rw[xB2 h,if_pos h];rfl
 ·rw[List.getElem?_eq_none (by simpa using h),if_neg h];rfl
noncomputable def wid(xs:List Nat)(n:Nat):List Nat:=xs++List.replicate (n-xs.length) 0
theorem ydy{xs:List Nat}{n:Nat}(h:xs.length<=n):(wid xs n).length=n:=by simp[wid];omega
theorem zha{xs:List Nat}{n q:Nat}(hq:0<q)(h:∀x∈xs,x<q):∀x∈wid xs n,x<q:=by
 intro x hx;rcases xAB.mp hx with h1|h1
 ·exact h x h1
 ·rw[(List.mem_replicate.mp h1).2];exact hq
section
variable {p m t:Nat} (hp:2<=p) (hm:1<=m)
include hp hm
theorem ye1{x y:Nat}(hx:x<p^m)(hy:y<p^m):add p m x (mul p m t (p-1) y)=sub p m x y:=by
 refine zbE hp (zbg hp hm _ _) (zbX hp hm _ _) λi hi=>?_
 rw[ybD hp hm _ _ i hi,yeW hp hm _ _ i hi,zbs hp hm _ _ i hi];have e:∀(k:Nat) (Y:Nat->Nat),1<=k->tn m (dgs p t) k (dgs p (p-1)) Y i=(p-1)*Y i:=by
  intro k Y hk;obtain⟨k,rfl⟩:∃k',k=k'+1:=⟨k-1,()⟩
  show dg p 0 (p-1)*Y i+tn m (dgs p t) k (λj=>dg p (j+1) (p-1)) (yaH m (dgs p t) Y) i=_;rw[zcj _ _ _ _ (λj=>by rw[ybA,Nat.div_eq_of_lt (),ybh]),ybn,xAW (),Nat.add_zero]
 rw[e m _ hm,Nat.add_mod_mod]
end
section
variable {P:Program} {w:World} {K:PySem.W.Frag} {mg:Str->Option Value} {base:Heap} {f:Addr} {fd:FuncData}
noncomputable def zg6(K:PySem.W.Frag):Sp:=λvs H Q _=>∃(a:Addr) (xs:List Nat) (n:Nat),vs=[.ref a,Vn n]/\SqT K H a (xs.map Vn)/\xs.length<=n/\n<=1000/\∀r H',Same H H'->H r=none->H' r=some (.lst ((wid xs n).map Vn))->Q (.ref r) H'
theorem zfw:yah ["row","many"] ["row","many"] (zae zc0):=⟨rfl,rfl,rfl,∅,rfl,∅,∅⟩
theorem zia(B:Bl mg)(F:Fun K "widened" "widened" zc0 f fd):FnOk P w K mg base CX0 1 f fd ["row","many"] (zg6 K):=by
 refine F.ok zfw (λvs H Q E h=>?_) (λcdv A outer s H vs Q E hr h=>?_)
 ·obtain⟨a,xs,n,rfl,_⟩:=h;rfl
 obtain⟨a,xs,n,rfl,ha,hl,hn,q⟩:=h;refine⟨_,(@yad _ _ _ (@yai _ _ _ _ (@zag _ _ _ _ _ _ _ _ yfB (@yaq _ _ _ _ _ _ _ _ _ ybK rfl (B "list" #[]) ybl (@zaa _ _ _ _ _ (pv 0) zab ⋯) #[] #[] ⋯ ⋯) (@zag _ _ _ _ _ _ _ _ zdV (@yaI _ _ _ _ (@zaa _ _ _ _ _ yac zab ⋯)) (@zag _ _ _ _ _ _ _ _ yaW (pv 1) (@zam _ _ _ _ _ _ _ _ _ zak rfl (B "len" #[]) xAR (@zaa _ _ _ _ _ (pv 0) zab ⋯) #[] #[] ⋯ ⋯)))))),?_⟩;refine⟨_,rfl,a,_,rfl,.inr ha,λl1 hl1=>?_⟩;have s1:=zac hl1 (.lst (xs.map Vn));refine⟨szl 1,λl2 hl2=>?_⟩;have s2:=s1.trans (zac hl2 (.lst [V.int 0]));refine⟨_,rfl,_,rfl,a,_,rfl,.inr (Same.tup s2 ha),_,_,rfl,rfl,?_⟩;have eN:(n:Int)-(((xs.map Vn).length:Nat):Int)=((n-xs.length:Nat):Int):=by rw[xA1];omega
 refine⟨l2,_,_,rfl,rfl,yab,by rw[eN];omega,by rw[eN];omega,by rw[eN,xAm];exact szl _ (by simp;omega),λl3 hl3=>?_⟩;rw[eN,xAm,ycd];have s3:=zac hl3 (.lst ((List.replicate (n-xs.length) 0).map Vn));refine⟨l1,l3,_,_,rfl,rfl,s3 _ _ ((zac hl2 _) _ _ yab),yab,by simp only[xA1,xAq];exact szl _ (),λr hr=>?_⟩;rw[<-xA8];have s4:=s2.trans s3;exact q r _ (s4.trans (zac hr _)) (s4.free hr) yab
end
end My
end
section
-- text: PC
namespace My
open PySem L2 Dg
section
variable {P:Program} {w:World} {K:PySem.W.Frag} {mg:Str->Option Value} {base:Heap} {f:Addr} {fd:FuncData}
noncomputable def zfe(K:PySem.W.Frag):Sp:=λvs H Q _=>∃(fa a:Addr) (p m t x:Nat) (xs:List Nat),vs=[.ref fa,.ref a,Vn x]/\Fld K H fa p m t/\Good p m t/\SqT K H a (xs.map Vn)/\(∀y∈xs,y<p^m)/\x<p^m/\Q (Vn (val p m t x xs)) H
theorem zcD:yah ["field","row","one","total","thing"] ["field","row","one"] (zae zep):=⟨rfl,rfl,rfl,∅,rfl,∅,∅⟩
theorem ygD(B:Bl mg)(xC5:Has P w K mg base 1 "plus" ["field","one","other"] (zbO K))(xCc:Has P w K mg base 3 "times" ["field","one","other"] (zba K))(F:Fun K "value" "value" zep f fd):FnOk P w K mg base CX0 4 f fd ["field","row","one"] (zfe K):=by
 refine F.ok zcD (λvs H Q E h=>?_) (λcdv A outer s H vs Q E hr h=>?_)
 ·obtain⟨fa,a,p,m,t,x,xs,rfl,_⟩:=h;rfl
 obtain⟨fa,a,p,m,t,x,xs,rfl,hF,G,ha,hy,hx,q⟩:=h;have hp:=G.hp;have hm:=G.hm;have hp2:=p_le hp hm G.hq;refine⟨_,(@yaa _ _ _ _ _ (@yaf _ _ 3 _ _ _ _ zcD.nd rfl (Or.inl rfl) yac ⋯ (by trivial)) (@yaa _ _ _ _ _ (@zaF _ _ _ _ _ _ _ _ xAi rfl (@zh1 _ _ _ _ _ _ rfl (B "reversed" #[]) (@zaa _ _ _ _ _ (pv 1) zab ⋯) ⋯) (@yae _ _ 4 _ zcD.nd rfl (Or.inl rfl) (by trivial)) (@yad _ _ _ (@yaf _ _ 3 _ _ _ _ zcD.nd rfl (Or.inl rfl) (@zad _ _ _ _ _ _ _ _ _ _ _ xC5 hr #[] rfl (@zaa _ _ _ _ _ (pv 0) (@zaa _ _ _ _ _ (@zad _ _ _ _ _ _ _ _ _ _ _ xCc hr #[] rfl (@zaa _ _ _ _ _ (pv 0) (@zaa _ _ _ _ _ (pv 3) (@zaa _ _ _ _ _ (pv 2) zab ⋯) ⋯) ⋯) #[] ⋯ ⋯) (@zaa _ _ _ _ _ (pv 4) zab ⋯) ⋯) ⋯) #[] ⋯ ⋯) ⋯ (by trivial))) (by intro _;rfl)) (@yad _ _ _ (@yai _ _ _ _ (pv 3))))),?_⟩;refine⟨_,rfl,a,_,rfl,ha,?_⟩;refine yaK (ygU (xs:=xs.map Vn)) (λk σ H'=>H'=H/\∃s4,σ=[some (.ref fa),some (.ref a),some (Vn x),some (Vn (val p m t x (xs.drop (xs.length-k)))),s4]) ⟨rfl,none,by rw[Nat.sub_zero,List.drop_length];rfl⟩ (λi σ H' _ h=>by rw[h.1];exact ha) ?_ ?_
 ·rintro k z σ H1 H2 hk ⟨rfl,s4,rfl⟩ ⟨rfl,ez⟩;rw[xA1]at hk ez;have hk2:xs.length-1-k<xs.length:=by omega
  rw[yay hk2]at ez;cases ez;refine⟨_,rfl,_,rfl,_,rfl,_,rfl,fa,p,m,t,val p m t x (xs.drop (xs.length-k)),x,rfl,hF,hp,hm,G.hq,G.top,zbt hp hm _ _,hx,λr br h1=>?_⟩;cases zbH hp hm br h1;refine⟨_,rfl,fa,p,m,t,mul p m t (val p m t x (xs.drop (xs.length-k))) x,xs.getD (xs.length-1-k) 0,rfl,hF,hp,hp2,λr h2=>?_⟩;cases ydn hp hm (zaw hp hm _ _) (yaM hy hk2) h2;have e:xs.drop (xs.length-(k+1))=xs.getD (xs.length-1-k) 0::xs.drop (xs.length-k):=by
   rw[show xs.length-(k+1)=xs.length-1-k by omega,List.drop_eq_getElem_cons hk2];congr 1
   ·simp[List.getD,hk2]
   ·congr 1;omega
  refine⟨rfl,some (Vn (xs.getD (xs.length-1-k) 0)),?_⟩;rw[e];rfl
 ·rw[xA1];rintro σ H1 ⟨rfl,s4,rfl⟩;rw[Nat.sub_self,List.drop_zero];exact⟨_,rfl,q⟩
theorem ydH:yah ["_law_table_here","_law_one","_law_many"] ["_law_table_here","_law_one","_law_many"] (zae ybP):=⟨rfl,rfl,rfl,∅,rfl,∅,∅⟩
end
end My
end
section
-- text: PD
namespace My
open PySem L2 Dg
structure Ord(p m t x n:Nat):Prop where
 pos:1<=n
 one:pw p m t x n=1
 min:∀i,0<i->i<n->pw p m t x i≠1
theorem Ord.le{p m t x n k:Nat}(o:Ord p m t x n)(h0:0<k)(h:pw p m t x k=1):n<=k:=by
 rcases xAN k n with h1|h1
 ·exact absurd h (o.min k h0 h1)
 ·exact h1
theorem Ord.uniq{p m t x n k:Nat}(o:Ord p m t x n)(o':Ord p m t x k):n=k:=Nat.le_antisymm (o.le o'.pos o'.one) (o'.le o.pos o.one)
theorem ze3(x:Nat):decide (Vn x=V.int 1)=decide (x=1):=decide_eq_decide.mpr ⟨λe=>by injection e with e;omega,λe=>by rw[e];rfl⟩
section
variable {P:Program} {w:World} {K:PySem.W.Frag} {mg:Str->Option Value} {base:Heap} {f:Addr} {fd:FuncData}
noncomputable def yfa(K:PySem.W.Frag):Sp:=λvs H Q _=>∃(fa:Addr) (p m t x:Nat),vs=[.ref fa,Vn x]/\Fld K H fa p m t/\Good p m t/\0<x/\x<p^m/\∀n,Ord p m t x n->n<=p^m-1->Q (Vn n) H
theorem ybb:yah ["field","one","many","product"] ["field","one"] (zae ycn):=⟨rfl,rfl,rfl,∅,rfl,∅,∅⟩
theorem ygA(B:Bl mg)(xCc:Has P w K mg base 3 "times" ["field","one","other"] (zba K))(F:Fun K "round_of" "round_of" ycn f fd):FnOk P w K mg base CX0 4 f fd ["field","one"] (yfa K):=by
 refine F.ok ybb (λvs H Q E h=>?_) (λcdv A outer s H vs Q E hr h=>?_)
 ·obtain⟨fa,p,m,t,x,rfl,_⟩:=h;rfl
 obtain⟨fa,p,m,t,x,rfl,hF,G,h0,hx,q⟩:=h;have hp:=G.hp;have hm:=G.hm;have hQ:=G.hq;have hQ2:=yax hp hm;refine⟨_,(yaa (@yaf _ _ 2 _ _ _ _ ybb.nd rfl (Or.inl rfl) yac ⋯ (by trivial)) (yaa (@yaf _ _ 3 _ _ _ _ ybb.nd rfl (Or.inl rfl) (pv 1) ⋯ (by trivial)) (yaa (@zaO _ _ _ _ _ _ xAi (@zai _ _ _ _ _ _ _ _ ygu (pv 3) yac (yaj _)) (yaa (@yaf _ _ 3 _ _ _ _ ybb.nd rfl (Or.inl rfl) (zad xCc hr #[] rfl (zaa (pv 0) (zaa (pv 3) (zaa (pv 1) zab ⋯) ⋯) ⋯) #[] ⋯ ⋯) ⋯ (by trivial)) (yad (@zbF _ _ 2 _ _ _ _ _ _ ybb.nd rfl (Or.inl rfl) yac zeJ (by trivial))))) (yad (@yai _ _ _ _ (pv 2)))))),?_⟩;refine⟨_,rfl,?_⟩;refine yaO (λσ H'=>H'=H/\∃k,1<=k/\k<=p^m-1/\σ=[some (.ref fa),some (Vn x),some (Vn k),some (Vn (pw p m t x k))]/\∀i,0<i->i<k->pw p m t x i≠1) (λσ _=>p^m-mI σ 2) ⟨rfl,1,(),(),by rw[ybY hp hm hx];rfl,λi h1 h2=>by omega⟩ ?_;rintro σ H' ⟨rfl,k,hk1,hk2,rfl,hne⟩;refine⟨_,rfl,rfl,_,rfl,?_⟩;rw[ze3];refine ite2 (λc=>?_) (λc=>?_)
 ·have hk:pw p m t x k≠1:=by
   intro e;rw[xAz e]at c;exact absurd c #[]
  have hk3:k<p^m-1:=by
   rcases xAN k (p^m-1) with h|h
   ·exact h
   ·have:k=p^m-1:=by omega
    rw[this]at hk;exact absurd (G.fermat h0 hx) hk
  refine⟨λσ' H''=>H''=H'/\σ'=[some (.ref fa),some (Vn x),some (Vn (k+1)),some (Vn (pw p m t x (k+1)))],?_,?_⟩
  ·rintro σ' H'' ⟨rfl,rfl⟩;refine⟨_,?_,rfl,rfl,k+1,(),(),rfl,λi h1 h2=>?_⟩
   ·show p^m-(k+1)<p^m-k;omega
   ·rcases xAN i k with h|h
    ·exact hne i h1 h
    ·rw[show i=k by omega];exact hk
  ·refine⟨_,rfl,_,rfl,_,rfl,fa,p,m,t,pw p m t x k,x,rfl,hF,hp,hm,hQ,G.top,zaA hp hm _ _,hx,λr br h1=>?_⟩;cases zbH hp hm br h1;exact⟨_,rfl,_,_,rfl,rfl,rfl,rfl⟩
 ·have hk:pw p m t x k=1:=by
   rcases Nat.decEq (pw p m t x k) 1 with h|h
   ·exact absurd (by rw[xBw h];rfl) c
   ·exact h
  exact⟨_,rfl,q k ⟨hk1,hk,hne⟩ hk2⟩
noncomputable def yc5(K:PySem.W.Frag):Sp:=λvs H Q _=>∃(wa fa:Addr) (p m t few x:Nat) (mv:V),vs=[.ref wa]/\SqT K H wa [.ref fa,Vn few,Vn x,mv]/\Fld K H fa p m t/\Good p m t/\0<x/\x<p^m/\∀n,Ord p m t x n->n<=p^m-1->Q (Vn n) H
theorem ygs:yah ["wheel"] ["wheel"] (zae ydM):=⟨rfl,rfl,rfl,∅,rfl,∅,∅⟩
theorem zfy(B:Bl mg)(xC7:Has P w K mg base 4 "round_of" ["field","one"] (yfa K))(F:Fun K "length" "length" ydM f fd):FnOk P w K mg base CX0 5 f fd ["wheel"] (yc5 K):=by
 refine F.ok ygs (λvs H Q E h=>?_) (λcdv A outer s H vs Q E hr h=>?_)
 ·obtain⟨wa,fa,p,m,t,few,x,mv,rfl,_⟩:=h;rfl
 obtain⟨wa,fa,p,m,t,few,x,mv,rfl,hw,hF,G,h0,hx,q⟩:=h;refine⟨_,(yad (@yai _ _ _ _ (zad xC7 hr #[] rfl (zaa (zao zax (pv 0) yac (λ_ _=>rfl)) (zaa (zao zax (pv 0) yac (λ_ _=>rfl)) zab ⋯) ⋯) #[] ⋯ ⋯))),?_⟩;refine⟨_,rfl,wa,_,_,_,rfl,rfl,hw,rfl,?_⟩;refine⟨_,rfl,wa,_,_,_,rfl,rfl,hw,rfl,?_⟩;exact⟨fa,p,m,t,x,rfl,hF,G,h0,hx,q⟩
noncomputable def yc0:Sp:=λvs H Q _=>∃(tb fa pa la:Addr) (p m t b x:Nat),vs=[.ref tb,Vn x]/\Tab H tb fa pa la p m t b/\0<x/\x<p^m/\∀n,Ord p m t x n->n<=p^m-1->Q (Vn n) H
theorem zbC:yah ["_law_table_here","_law_one","_law_many","_law_thing"] ["_law_table_here","_law_one"] (zae zbN):=⟨rfl,rfl,rfl,∅,rfl,∅,∅⟩
theorem zfG(B:Bl mg)(xBO:Has P w K mg base 1 "_law_times" ["_law_table_here","_law_one","_law_other"] yb5)(F:Fun K "_law_round" "_law_round" zbN f fd):FnOk P w K mg base CX0 2 f fd ["_law_table_here","_law_one"] yc0:=by
 refine F.ok zbC (λvs H Q E h=>?_) (λcdv A outer s H vs Q E hr h=>?_)
 ·obtain⟨tb,fa,pa,la,p,m,t,b,x,rfl,_⟩:=h;rfl
 obtain⟨tb,fa,pa,la,p,m,t,b,x,rfl,T,h0,hx,q⟩:=h;have G:=T.good;have hp:=G.hp;have hm:=G.hm;have hQ:=G.hq;have hQ2:=yax hp hm;refine⟨_,(yaa (@zbI _ _ 2 3 _ _ _ _ _ _ _ _ _ _ _ rfl zbC.nd rfl rfl #[] rfl rfl (zaa yac (zaa (pv 1) zab ⋯) ⋯) rfl ⋯) (yaa (@zaO _ _ _ _ _ _ xAi (@zai _ _ _ _ _ _ _ _ ygu (pv 3) yac (yaj _)) (yad (@zbI _ _ 2 3 _ _ _ _ _ _ _ _ _ _ _ rfl zbC.nd rfl rfl #[] rfl rfl (zaa (zag yav (pv 2) yac) (zaa (zad xBO hr #[] rfl (zaa (pv 0) (zaa (pv 3) (zaa (pv 1) zab ⋯) ⋯) ⋯) #[] ⋯ ⋯) zab ⋯) ⋯) rfl ⋯))) (yad (@yai _ _ _ _ (pv 2))))),?_⟩;refine⟨_,rfl,_,_,rfl,?_⟩;refine yaO (λσ H'=>H'=H/\∃k,1<=k/\k<=p^m-1/\σ=[some (.ref tb),some (Vn x),some (Vn k),some (Vn (pw p m t x k))]/\∀i,0<i->i<k->pw p m t x i≠1) (λσ _=>p^m-mI σ 2) ⟨rfl,1,(),(),by rw[ybY hp hm hx];rfl,λi h1 h2=>by omega⟩ ?_;rintro σ H' ⟨rfl,k,hk1,hk2,rfl,hne⟩;refine⟨_,rfl,rfl,_,rfl,?_⟩;rw[ze3];refine ite2 (λc=>?_) (λc=>?_)
 ·have hk:pw p m t x k≠1:=by
   intro e;rw[xAz e]at c;exact absurd c #[]
  have hk3:k<p^m-1:=by
   rcases xAN k (p^m-1) with h|h
   ·exact h
   ·have:k=p^m-1:=by omega
    rw[this]at hk;exact absurd (G.fermat h0 hx) hk
  refine⟨λσ' H''=>H''=H'/\σ'=[some (.ref tb),some (Vn x),some (Vn (k+1)),some (Vn (pw p m t x (k+1)))],?_,?_⟩
  ·rintro σ' H'' ⟨rfl,rfl⟩;refine⟨_,?_,rfl,rfl,k+1,(),(),rfl,λi h1 h2=>?_⟩
   ·show p^m-(k+1)<p^m-k;omega
   ·rcases xAN i k with h|h
    ·exact hne i h1 h
    ·rw[show i=k by omega];exact hk
  ·refine⟨_,rfl,_,_,rfl,rfl,_,rfl,_,rfl,_,rfl,tb,fa,pa,la,p,m,t,b,pw p m t x k,x,rfl,T,zaA hp hm _ _,hx,?_⟩;exact⟨_,_,rfl,rfl,rfl⟩
 ·have hk:pw p m t x k=1:=by
   rcases Nat.decEq (pw p m t x k) 1 with h|h
   ·exact absurd (by rw[xBw h];rfl) c
   ·exact h
  exact⟨_,rfl,q k ⟨hk1,hk,hne⟩ hk2⟩
theorem ygT{xs:List V}{v:V}(h:xs[xs.length-1]?=some v):atI xs (-1)=some v:=by
 have hl:0<xs.length:=by
  have:=(xAo.mp h).1;omega
 unfold atI ixN;rw[if_neg #[],if_pos ()];show(some _).bind _=_;rw[Option.bind_some,<-h];congr 1;omega
end
end My
end
section
-- text: PE
namespace My
open PySem L2 Dg
local macro_rules | `(tactic| walk_at "rd") => `(tactic| repeat (first | refine ⟨_, rfl, ?_⟩ | refine ⟨_, _, rfl, rfl, ?_⟩))
noncomputable def zaB(p m t c:Nat)(xs:List Nat):List Nat:=(List.range xs.length).map λi=>mul p m t c (xs.getD i 0)
noncomputable def pwz(p m t x:Nat)(z:Int):Nat:=if x=0 then(if z=0 then 1 else 0) else pw p m t x (z%(((p^m:Nat):Int)-1)).toNat
section
variable {p m t:Nat} (G:Good p m t)
include G
theorem ybQ(c:Nat)(xs:List Nat):∀x∈zaB p m t c xs,x<p^m:=λx hx=>by
 obtain⟨i,_,rfl⟩:=xAe.mp hx;exact zaw G.hp G.hm _ _
theorem yhA{x k:Nat}(hx:x<p^m):pw p m t x k=mul p m t (if k%2=1 then x else 1) (pw p m t (mul p m t x x) (k/2)):=by
 have e2:pw p m t x 2=mul p m t x x:=by show mul p m t (mul p m t 1 x) x=_;rw[one_mul G.hp G.hm hx]
 by_cases c:k%2=1
 ·rw[if_pos c,<-e2,<-yaz G.hp G.hm];rw[show pw p m t x k=pw p m t x (1+2*(k/2)) by congr 1;omega,ya6 G.hp G.hm,ybY G.hp G.hm hx]
 ·rw[if_neg c,<-e2,<-yaz G.hp G.hm,one_mul G.hp G.hm (zaA G.hp G.hm _ _)];congr 1;omega
theorem ycY{x:Nat}(hx:x<p^m)(n:Nat):pwz p m t x (n:Int)=pw p m t x n:=by
 unfold pwz;have hQ:=yax G.hp G.hm;by_cases c:x=0
 ·rw[if_pos c,c];cases n with
  |zero=>rfl
  |succ n=>rw[yck G.hp G.hm,if_neg ()]
 ·rw[if_neg c,show((n:Int)%(((p^m:Nat):Int)-1)).toNat=n%(p^m-1) from ?_,G.pw_mod () hx];rw[show((p^m:Nat):Int)-1=((p^m-1:Nat):Int) by omega,<-Int.natCast_emod];rfl
theorem yiz{x:Nat}(h0:0<x)(hx:x<p^m):pwz p m t x (-1)=pw p m t x (p^m-2):=by
 unfold pwz;have hQ:=yax G.hp G.hm;rw[if_neg ()];by_cases c:p^m=2
 ·rw[c];rfl
 ·have e:((-1:Int)%(((p^m:Nat):Int)-1))=((p^m-2:Nat):Int):=by
   have h1:=Int.emod_nonneg (-1) (show((p^m:Nat):Int)-1≠0 by omega);rw[show(-1:Int)=((p^m-2:Nat):Int)+(((p^m:Nat):Int)-1)*(-1) by omega,Int.add_mul_emod_self_left];exact Int.emod_eq_of_lt () ()
  rw[e];rfl
end
section
variable {P:Program} {w:World} {K:PySem.W.Frag} {mg:Str->Option Value} {base:Heap} {f:Addr} {fd:FuncData}
noncomputable def zdq(K:PySem.W.Frag):Sp:=λvs H Q _=>∃(a:Addr) (p m t:Nat),vs=[.ref a]/\Fld K H a p m t/\p<=64/\m<=1000/\Q (Vn (p^m)) H
theorem yc8:yah ["field"] ["field"] (zae zbA):=⟨rfl,rfl,rfl,∅,rfl,∅,∅⟩
theorem zhN(B:Bl mg)(xC2:Has P w K mg base 1 "number_power" ["base","many"] yam)(F:Fun K "many_things" "many_things" zbA f fd):FnOk P w K mg base CX0 2 f fd ["field"] (zdq K):=by
 refine F.ok yc8 (λvs H Q E h=>?_) (λcdv A outer s H vs Q E hr h=>?_)
 ·obtain⟨a,p,m,t,rfl,_⟩:=h;rfl
 obtain⟨a,p,m,t,rfl,hF,hp,hm,q⟩:=h;refine⟨_,(yad (@yai _ _ _ _ (zad xC2 hr #[] rfl (zaa (zao zax (pv 0) yac (λ_ _=>rfl)) (zaa (zao zax (pv 0) yac (λ_ _=>rfl)) zab ⋯) ⋯) #[] ⋯ ⋯))),?_⟩;refine⟨_,rfl,a,_,_,_,rfl,rfl,hF,rfl,_,rfl,a,_,_,_,rfl,rfl,hF,rfl,p,m,rfl,hp,hm,q⟩
noncomputable def zc1(K:PySem.W.Frag):Sp:=λvs H Q _=>∃(a:Addr) (p m t x n:Nat),vs=[.ref a,Vn x,Vn n]/\Fld K H a p m t/\Good p m t/\x<p^m/\Q (Vn (pw p m t x n)) H
theorem yaJ:yah ["field","one","many","product"] ["field","one","many"] (zae zbq):=⟨rfl,rfl,rfl,∅,rfl,∅,∅⟩
theorem yfU(B:Bl mg)(xCc:Has P w K mg base 3 "times" ["field","one","other"] (zba K))(F:Fun K "times_itself" "times_itself" zbq f fd):FnOk P w K mg base CX0 4 f fd ["field","one","many"] (zc1 K):=by
 refine F.ok yaJ (λvs H Q E h=>?_) (λcdv A outer s H vs Q E hr h=>?_)
 ·obtain⟨a,p,m,t,x,n,rfl,_⟩:=h;rfl
 obtain⟨a,p,m,t,x,n,rfl,hF,G,hx,q⟩:=h;have hp:=G.hp;have hm:=G.hm;refine⟨_,(yaa (@yaf _ _ 3 _ _ _ _ yaJ.nd rfl (Or.inl rfl) yac ⋯ (by trivial)) (yaa (@zaO _ _ _ _ _ _ xAi (@zai _ _ _ _ _ _ _ _ yb3 (pv 2) yac (yaj _)) (yaa (@yaS _ _ _ _ _ _ _ _ (@zai _ _ _ _ _ _ _ _ za4 (zag zaC (pv 2) yac) yac (yaj _)) (yad (@yaf _ _ 3 _ _ _ _ yaJ.nd rfl (Or.inl rfl) (zad xCc hr #[] rfl (zaa (pv 0) (zaa (pv 3) (zaa (pv 1) zab ⋯) ⋯) ⋯) #[] ⋯ ⋯) ⋯ (by trivial))) zas) (yaa (@zbF _ _ 2 _ _ _ _ _ _ yaJ.nd rfl (Or.inl rfl) yac ycW (by trivial)) (yad (@yaS _ _ _ _ _ _ _ _ (@zai _ _ _ _ _ _ _ _ yb3 (pv 2) yac (yaj _)) (yad (@yaf _ _ 1 _ _ _ _ yaJ.nd rfl (Or.inl rfl) (zad xCc hr #[] rfl (zaa (pv 0) (zaa (pv 1) (zaa (pv 1) zab ⋯) ⋯) ⋯) #[] ⋯ ⋯) ⋯ (by trivial))) zas))))) (yad (@yai _ _ _ _ (pv 3))))),?_⟩;refine yaO (λσ H'=>H'=H/\∃(o k pr:Nat),σ=[some (.ref a),some (Vn o),some (Vn k),some (Vn pr)]/\o<p^m/\pr<p^m/\mul p m t pr (pw p m t o k)=pw p m t x n)
  (λσ _=>mI σ 2) ⟨rfl,x,n,1,rfl,hx,yax hp hm,one_mul hp hm (zaA hp hm _ _)⟩ ?_
 rintro σ H' ⟨rfl,o,k,pr,rfl,ho,hpr,he⟩
 walk_at "rd"
 refine ite2 (λc=>?_) (λc=>?_)
 ·have c':0<k:=by have:=xAh c;omega
  refine⟨λσ' H''=>H''=H'/\∃(o' pr':Nat),σ'=[some (.ref a),some (Vn o'),some (Vn (k/2)),some (Vn pr')]/\o'<p^m/\pr'<p^m/\mul p m t pr' (pw p m t o' (k/2))=pw p m t x n,?_,?_⟩
  ·rintro σ' H'' ⟨rfl,o',pr',rfl,b1,b2,b3⟩;exact⟨_,by show k/2<k;exact Nat.div_lt_self c' (),rfl,rfl,o',k/2,pr',rfl,b1,b2,b3⟩
  refine zbf (λσ' H''=>H''=H'/\∃pr':Nat,σ'=[some (.ref a),some (Vn o),some (Vn k),some (Vn pr')]/\pr'<p^m/\mul p m t pr' (pw p m t (mul p m t o o) (k/2))=pw p m t x n) ?_ ?_
  ·rintro σ' H'' ⟨rfl,pr',rfl,hpr',he'⟩
   walk_at "rd"
   refine⟨⟨by show(0:Int)<2;decide,by show(2:Int)<2^64;decide⟩,?_⟩
   walk_at "rd"
   refine ite2 (λc2=>?_) (λc2=>?_)
   ·refine⟨_,rfl,_,rfl,_,rfl,a,p,m,t,o,o,rfl,hF,hp,hm,G.hq,G.top,ho,ho,λr br hr=>?_⟩;cases zbH hp hm br hr;exact⟨rfl,_,pr',rfl,zaw hp hm _ _,hpr',he'⟩
   ·have k0:k/2=0:=by
     have:=of_decide_eq_false (Bool.eq_false_iff.mpr c2);have e:((k/2:Nat):Int)=(k:Int)/2:=rfl;omega
    rw[k0]at he';refine⟨rfl,o,pr',rfl,ho,hpr',?_⟩;rw[k0];exact he'
  ·intro D' _ _ _ hD';refine⟨_,rfl,_,_,rfl,rfl,by show(0:Int)<2;decide,rfl,_,rfl,?_⟩;have ed:decide (V.int ((k:Int)%2)=V.int 1)=decide (k%2=1):=decide_eq_decide.mpr ⟨λe=>by injection e with e;omega,λe=>by congr 1;omega⟩;rw[ed];rw[yhA G ho,<-mul_assoc hp hm]at he;refine ite2 (λc2=>?_) (λc2=>?_)
   ·have c3:k%2=1:=xAh c2;rw[if_pos c3]at he;refine⟨_,rfl,_,rfl,_,rfl,a,p,m,t,pr,o,rfl,hF,hp,hm,G.hq,G.top,hpr,ho,λr br hr=>?_⟩;cases zbH hp hm br hr;exact hD' _ _ ⟨rfl,_,rfl,zaw hp hm _ _,he⟩
   ·have c3:¬ k%2=1:=λh=>c2 (xAz h)
    rw[if_neg c3,mul_one hp hm hpr]at he;exact hD' _ _ ⟨rfl,_,rfl,hpr,he⟩
 ·have c':k=0:=by have:=of_decide_eq_false (Bool.eq_false_iff.mpr c);omega
  subst c';refine⟨_,rfl,?_⟩;have e:pr=pw p m t x n:=by rw[<-he];exact(mul_one hp hm hpr).symm
  rw[e];exact q
noncomputable def yez(K:PySem.W.Frag):Sp:=λvs H Q _=>∃(a:Addr) (p m t x y:Nat),vs=[.ref a,Vn x,Vn y]/\Fld K H a p m t/\Good p m t/\x<p^m/\0<y/\y<p^m/\Q (Vn (mul p m t x (pw p m t y (p^m-2)))) H
theorem zhu:yah ["field","one","other"] ["field","one","other"] (zae zgh):=⟨rfl,rfl,rfl,∅,rfl,∅,∅⟩
theorem yhj(B:Bl mg)(xCc:Has P w K mg base 3 "times" ["field","one","other"] (zba K))(xCd:Has P w K mg base 4 "times_itself" ["field","one","many"] (zc1 K))(xC0:Has P w K mg base 2 "many_things" ["field"] (zdq K))(F:Fun K "over" "over" zgh f fd):FnOk P w K mg base CX0 5 f fd ["field","one","other"] (yez K):=by
 refine F.ok zhu (λvs H Q E h=>?_) (λcdv A outer s H vs Q E hr h=>?_)
 ·obtain⟨a,p,m,t,x,y,rfl,_⟩:=h;rfl
 obtain⟨a,p,m,t,x,y,rfl,hF,G,hx,h0,hy,q⟩:=h;have hp:=G.hp;have hm:=G.hm;have hQ:=yax hp hm;refine⟨_,(yaa (@yaS _ _ _ _ _ _ _ _ (@zai _ _ _ _ _ _ _ _ za4 (pv 2) yac (yaj _)) (yad ycH) zas) (yad (@yai _ _ _ _ (zad xCc hr #[] rfl (zaa (pv 0) (zaa (pv 1) (zaa (zad xCd hr #[] rfl (zaa (pv 0) (zaa (pv 2) (zaa (zag yaW (zad xC0 hr #[] rfl (zaa (pv 0) zab ⋯) #[] ⋯ ⋯) yac) zab ⋯) ⋯) ⋯) #[] ⋯ ⋯) zab ⋯) ⋯) ⋯) #[] ⋯ ⋯)))),?_⟩;refine⟨_,rfl,rfl,_,rfl,?_⟩;rw[yby];refine ite2 (λc=>absurd (xAh c) ()) (λ_=>?_);refine⟨_,rfl,_,rfl,_,rfl,_,rfl,_,rfl,a,p,m,t,rfl,hF,p_le hp hm G.hq,by have:=m_le hp G.hq;omega,?_⟩;refine⟨_,_,rfl,rfl,a,p,m,t,y,p^m-2,?_,hF,G,hy,?_⟩
 ·show [V.ref a,Vn y,V.int (((p^m:Nat):Int)-2)]=[V.ref a,Vn y,V.int ((p^m-2:Nat):Int)]
  rw[show((p^m:Nat):Int)-2=((p^m-2:Nat):Int) by omega]
 refine⟨a,p,m,t,x,_,rfl,hF,hp,hm,G.hq,G.top,hx,zaA hp hm _ _,λr br hr=>?_⟩;cases zbH hp hm br hr;exact q
noncomputable def ybw(K:PySem.W.Frag):Sp:=λvs H Q _=>∃(fa a:Addr) (p m t c:Nat) (xs:List Nat),vs=[.ref fa,Vn c,.ref a]/\Fld K H fa p m t/\Good p m t/\c<p^m/\SqT K H a (xs.map Vn)/\xs.length<=100/\(∀x∈xs,x<p^m)/\
 ∀r H',Same H H'->H r=none->H' r=some (.tup ((zaB p m t c xs).map Vn))->Q (.ref r) H'
theorem zdE:yah ["field","one","word"] ["field","one","word"] (zae ybj):=⟨rfl,rfl,rfl,∅,rfl,∅,∅⟩
theorem zdF(B:Bl mg)(xCc:Has P w K mg base 3 "times" ["field","one","other"] (zba K))(F:Fun K "word_times" "word_times" ybj f fd):FnOk P w K mg base CX0 4 f fd ["field","one","word"] (ybw K):=by
 refine F.ok zdE (λvs H Q E h=>?_) (λcdv A outer s H vs Q E hr h=>?_)
 ·obtain⟨fa,a,p,m,t,c,xs,rfl,_⟩:=h;rfl
 obtain⟨fa,a,p,m,t,c,xs,rfl,hF,G,hc,ha,hl,hx,q⟩:=h;refine⟨_,(yad (@yai _ _ _ _ (yaq yap rfl (B "tuple" #[]) zap (zaa (@zaI _ _ _ _ _ _ _ ["thing"] ["field","one"] [0,1] _ _ _ _ (id (α:=CSc ["field","one","word"] (zae ybj) ["thing"] ["field","one"] [0,1] _) ⟨by rfl,∅,∅,∅,∅,by rfl,∅⟩) rfl (@yb9 _ _ _ _ (pv 2)) (λcl C fp s H=>(@yae _ _ 0 _ (by show List.Nodup (["thing","field","one"]:List Str);decide +kernel) rfl (Or.inl rfl) (by trivial))) (λ_ _ _ _ _=>yaD) (λ_ _ _ _ _=>(zad xCc hr #[] rfl (zaa (pv 1) (zaa (pv 2) (zaa (pv 0) zab ⋯) ⋯) ⋯) #[] ⋯ ⋯)) (by intro _;rfl)) zab ⋯) #[] #[] ⋯ ⋯))),?_⟩;refine⟨_,rfl,a,rfl,⟨_,ha⟩,?_⟩;refine zav (za9 (xs:=xs.map Vn)) (λk acc H'=>Same H H'/\acc=((List.range k).map λi=>mul p m t c (xs.getD i 0)).map Vn) ⟨Same.refl _,rfl⟩ (λi acc H' _ h=>Same.tup h.1 ha) ?_ ?_ ?_
 ·rintro k acc H' hk ⟨_,rfl⟩;rw[xA1]at hk;rw[xA1,xA1,xAt];exact zal ()
 ·rintro k acc z H1 H2 hk ⟨s1,rfl⟩ ⟨rfl,ez⟩;rw[xA1]at hk;rw[yay ()]at ez;cases ez;refine⟨_,rfl,_,rfl,_,rfl,fa,p,m,t,c,xs.getD k 0,rfl,Same.tup s1 hF,G.hp,G.hm,G.hq,G.top,hc,yaM hx (),λr br h1=>?_⟩;cases zbH G.hp G.hm br h1;refine⟨s1,?_⟩;rw[xBa,xA8,xA8];rfl
 ·rw[xA1];rintro acc H1 ⟨s1,rfl⟩ D hD;refine⟨D,_,rfl,.inl ⟨SqL.of yab,λr hr=>?_⟩⟩;have s2:=s1.trans (zac hD (.lst ((zaB p m t c xs).map Vn)));exact q r _ (s2.trans (zac hr _)) (s2.free hr) yab
noncomputable def zeX:Sp:=λvs H Q _=>∃(tb fa pa la:Addr) (p m t b x:Nat) (z:Int),vs=[.ref tb,Vn x,.int z]/\Tab H tb fa pa la p m t b/\x<p^m/\Q (Vn (pwz p m t x z)) H
theorem zgW(B:Bl mg)(F:Fun K "_law_power" "_law_power" ybP f fd):FnOk P w K mg base CX0 1 f fd ["_law_table_here","_law_one","_law_many"] zeX:=by
 refine F.ok ydH (λvs H Q E h=>?_) (λcdv A outer s H vs Q E hr h=>?_)
 ·obtain⟨tb,fa,pa,la,p,m,t,b,x,n,rfl,_⟩:=h;rfl
 obtain⟨tb,fa,pa,la,p,m,t,b,x,z,rfl,T,hx,q⟩:=h;have hp:=T.good.hp;have hm:=T.good.hm;have hQ2:=yax hp hm;have hQ:=T.good.hq;unfold pwz at q;refine⟨_,(yaa (@yaS _ _ _ _ _ _ _ _ (@zai _ _ _ _ _ _ _ _ za4 (pv 1) yac (yaj _)) (yad (@yai _ _ _ _ (yaq ydQ rfl (B "int" #[]) ycT (zaa (@ybg _ _ _ _ _ _ _ _ za4 (pv 2) yac (yaj _)) zab ⋯) #[] #[] ⋯ ⋯))) zas) (yad (@yai _ _ _ _ (zao yan (@zaH _ _ _ _ _ _ (ybG hr) (pv 0) yaN (λ_ _=>rfl)) (zag zaC (zag yaR (@zaH _ _ _ _ _ _ (ybG hr) (@zaH _ _ _ _ _ _ (ybG hr) (pv 0) yaN (λ_ _=>rfl)) (pv 1) (λ_ _=>rfl)) (pv 2)) (zag yaW (@zaH _ _ _ _ _ _ (ybG hr) (pv 0) yaN (λ_ _=>rfl)) yac)) (λ_ _=>rfl))))),?_⟩;refine⟨_,rfl,rfl,_,rfl,?_⟩;rw[yby];refine ite2 (λc=>?_) (λc=>?_)
 ·have x0:x=0:=xAh c;rw[if_pos x0]at q;refine⟨_,rfl,rfl,.inr ⟨_,rfl,?_⟩⟩;by_cases cz:z=0
  ·rw[if_pos cz]at q;rw[if_pos (xAz (by rw[cz]))];exact q
  ·rw[if_neg cz]at q;rw[if_neg (λh=>cz (by have:=xAh h;injection this))];exact q
 ·have x0:0<x:=by
   have:¬ x=0:=λh=>c (xAz h)
   omega
  rw[if_neg ()]at q;obtain⟨i,hi,ei⟩:=T.prim.all x x0 hx;have gi:=T.log hi;rw[ei]at gi;refine⟨_,rfl,tb,_,rfl,T.get zdh,?_⟩;refine⟨_,rfl,tb,_,rfl,T.get ydJ,_,rfl,la,_,rfl,gi,_,rfl,_,_,rfl,rfl,.inl ⟨(),()⟩,?_⟩;refine⟨_,rfl,tb,_,rfl,T.get ycG,_,_,rfl,rfl,_,_,rfl,rfl,by show(0:Int)<((p^m:Nat):Int)-1;omega,?_⟩;have hz0:=Int.emod_nonneg z (show((p^m:Nat):Int)-1≠0 by omega);have hz1:=Int.emod_lt_of_pos z (show(0:Int)<((p^m:Nat):Int)-1 by omega);obtain⟨n,en⟩:=Int.eq_ofNat_of_zero_le hz0;rw[en]at q hz1;have ek:((i:Int)*z)%(((p^m:Nat):Int)-1)=(((i*n)%(p^m-1):Nat):Int):=by
   rw[Int.mul_emod,en,Int.natCast_emod,Int.natCast_mul,Int.natCast_sub ()];rw[Int.mul_emod];simp;exact(Int.mul_emod _ _ _).symm
  have hk:(i*n)%(p^m-1)<p^m-1:=xAC _ ();refine⟨pa,_,_,Vn (pw p m t b ((i*n)%(p^m-1))),rfl,rfl,SqL.of T.w,?_,?_⟩
  ·show atI _ (((i:Int)*z)%(((p^m:Nat):Int)-1))=_;rw[ek];exact yaZ (by unfold Pws;rw[xA9,xA9,xB2 hk];rfl)
  ·have e:pw p m t b ((i*n)%(p^m-1))=pw p m t x n:=by
    rw[T.good.pw_mod T.prim.pos T.prim.lt,yaz hp hm,ei]
   rw[e];exact q
end
end My
end
section
-- text: PF
namespace My
open PySem L2 Dg
local macro_rules | `(tactic| walk_at "rd") => `(tactic| repeat (first | refine ⟨_, rfl, ?_⟩ | refine ⟨_, _, rfl, rfl, ?_⟩))
section
variable {P:Program} {w:World} {K:PySem.W.Frag} {mg:Str->Option Value} {base:Heap} {f:Addr} {fd:FuncData}
end
end My
end
section
-- text: PJ
namespace My
open PySem L2 Dg
local macro_rules | `(tactic| walk_at "rd") => `(tactic| repeat (first | refine ⟨_, rfl, ?_⟩ | refine ⟨_, _, rfl, rfl, ?_⟩))
section
variable {p m t:Nat} (G:Good p m t)
include G
theorem Ord.dvd{x n k:Nat}(hx:x<p^m)(o:Ord p m t x n)(h:pw p m t x k=1):k%n=0:=by
 have hp:=G.hp;have hm:=G.hm;rcases xAO (k%n) with c|c
 ·exact c
 ·have e:pw p m t x (n*(k/n)+k%n)=1:=by rw[Nat.div_add_mod];exact h
  rw[ya6 hp hm,yaz hp hm,o.one,za7 hp hm,one_mul hp hm (zaA hp hm _ _)]at e;exact absurd e (o.min _ c (xAC _ (by have:=o.pos;omega)))
theorem Ord.round{x n few:Nat}(h0:0<x)(hx:x<p^m)(o:Ord p m t x n)(hf:m%few=0)(hf1:1<=few):(p^few)^(m/few)%n=1%n:=by
 have hp:=G.hp;have hm:=G.hm;have h1:=Ord.dvd G hx o (G.fermat h0 hx);have hQ:=yax hp hm;have e:few*(m/few)=m:=by have:=Nat.div_add_mod m few;rw[hf]at this;omega
 rw[<-Nat.pow_mul,e];obtain⟨c,hc⟩:=xAV h1;rw[show p^m=1+n*c by omega,Nat.add_mul_mod_self_left]
end
section
variable {P:Program} {w:World} {K:PySem.W.Frag} {mg:Str->Option Value} {base:Heap} {f:Addr} {fd:FuncData}
noncomputable def zbz(i n q L:Nat):List Nat:=(List.range L).map λj=>i*q^j%n
theorem zee{i n q L j:Nat}(h:j<L):(zbz i n q L).getD j 0=i*q^j%n:=by unfold zbz;rw[xAn,xA9,xB2 h];rfl
theorem zcJ{q e n:Nat}(hr:q^e%n=1%n)(he:1<=e)(i a:Nat):i*q^a*q^(e*a-a)%n=i%n:=by
 have h:a<=e*a:=Nat.le_mul_of_pos_left a he;rw[Nat.mul_assoc,<-Nat.pow_add,show a+(e*a-a)=e*a by omega,Nat.pow_mul,Nat.mul_mod,Nat.pow_mod,hr,<-Nat.pow_mod,Nat.one_pow,<-Nat.mul_mod,Nat.mul_one]
theorem yfs{i n q e L:Nat}(hr:q^e%n=1%n)(he:1<=e)(h:∀j,0<j->j<L->i*q^j%n≠i%n):(zbz i n q L).Nodup:=by
 refine zbd _ λa b ha hb e1=>?_
 have key:∀a b:Nat,a<b->b<L->i*q^a%n=i*q^b%n->False:=λa b hab hb e1=>by
  refine h (b-a) () () ?_;have e2:=zcJ hr he i a;rw[Nat.mul_mod,e1,<-Nat.mul_mod,show i*q^b=i*q^(b-a)*q^a by rw[Nat.mul_assoc,<-Nat.pow_add,show b-a+a=b by omega],zcJ hr he]at e2;exact e2
 rcases Nat.lt_trichotomy a b with h1|h1|h1
 ·exact(key a b h1 hb e1).elim
 ·exact h1
 ·exact(key b a h1 ha e1.symm).elim
theorem ygF{i n q L:Nat}(heq:i*q^L%n=i*q^0%n)(hL:0<L)(j:Nat):i*q^j%n∈zbz i n q L:=by
 induction j with
 |zero=>exact xAe.mpr ⟨0,xAu.mpr hL,rfl⟩
 |succ j ih=>
  obtain⟨k,hk,ek⟩:=xAe.mp ih;have hk:=xAu.mp hk;have e2:i*q^(j+1)%n=i*q^(k+1)%n:=by
   rw[xAD,xAD,<-Nat.mul_assoc,<-Nat.mul_assoc,Nat.mul_mod,<-ek,<-Nat.mul_mod]
  rw[e2];by_cases c:k+1<L
  ·exact xAe.mpr ⟨k+1,xAu.mpr c,rfl⟩
  ·rw[show k+1=L by omega,heq];exact xAe.mpr ⟨0,xAu.mpr hL,rfl⟩
noncomputable def zcE:Sp:=λvs H Q _=>∃(i n q e:Nat),vs=[Vn i,Vn n,Vn q]/\0<n/\n<=64/\q<=64/\1<=e/\e<=6/\q^e%n=1%n/\
 ∀r (ns:List Nat) H',Same H H'->H r=none->H' r=some (.lst (ns.map Vn))->0<ns.length->ns.length<=6->(∀x∈ns,x<n)->(∀x∈ns,x*q%n∈ns)->ns.Nodup->(∀x∈ns,∃j,x=i*q^j%n)->(∀j,i*q^j%n∈ns)->Q (.ref r) H'
theorem ycw:yah ["_law_i","_law_n","_law_q","_law_found"] ["_law_i","_law_n","_law_q"] (zae ybZ):=⟨rfl,rfl,rfl,∅,rfl,∅,∅⟩
theorem ygI(B:Bl mg)(F:Fun K "_law_ring" "_law_ring" ybZ f fd):FnOk P w K mg base CX0 1 f fd ["_law_i","_law_n","_law_q"] zcE:=by
 refine F.ok ycw (λvs H Q E h=>?_) (λcdv A outer s H vs Q E hr h=>?_)
 ·obtain⟨i,n,q,e,rfl,_⟩:=h;rfl
 obtain⟨i,n,q,e,rfl,hn,hn2,hq,he1,he2,hr1,q'⟩:=h;refine⟨_,(yaa (@yaf _ _ 3 _ _ _ _ ycw.nd rfl (Or.inl rfl) (@yaI _ _ _ _ (zaa (zag zaC (pv 0) (pv 1)) zab ⋯)) ⋯ (by trivial)) (yaa (@zaO _ _ _ _ _ _ xAi (@zai _ _ _ _ _ _ _ _ ygu (zag zaC (zag yaR (zao yan (pv 3) (@yet _ _ _ _ _ _ ycX yac) (λ_ _=>rfl)) (pv 2)) (pv 1)) (zao yan (pv 3) yac (λ_ _=>rfl)) (yaj _)) (yad (@zbM _ _ _ _ (@ydV _ _ _ _ _ _ _ _ _ _ _ _ xBg xBn xBm zbc (pv 3) (zaa (zag zaC (zag yaR (zao yan (pv 3) (@yet _ _ _ _ _ _ ycX yac) (λ_ _=>rfl)) (pv 2)) (pv 1)) zab ⋯) ⋯ ⋯ ⋯ ⋯ ⋯) ⋯))) (yad (@yai _ _ _ _ (pv 3))))),?_⟩;refine⟨_,rfl,_,rfl,_,_,rfl,rfl,by show(0:Int)<n;omega,szl 1,λl hl=>?_⟩;dsimp only[yaw];refine yaO (λσ H'=>∃L:Nat,1<=L/\L<=e/\(∀j,0<j->j<L->i*q^j%n≠i%n)/\H'=upd H l (.lst ((zbz i n q L).map Vn))/\σ=[some (Vn i),some (Vn n),some (Vn q),some (.ref l)]) (λ_ H'=>7-ydK H' l) ⟨1,xA4 _,he1,λj _ _=>by omega,by simp[zbz];rfl,rfl⟩ ?_;rintro σ H' ⟨L,h1,h2,hne0,rfl,rfl⟩;have el:upd H l (.lst ((zbz i n q L).map Vn)) l=some (.lst ((zbz i n q L).map Vn)):=yab;have ll:(zbz i n q L).length=L:=by simp[zbz]
 have hlast:atI ((zbz i n q L).map Vn) (-1)=some (Vn (i*q^(L-1)%n)):=ygT (by rw[xA1,ll,yay (),zee ()]);have hfirst:atI ((zbz i n q L).map Vn) 0=some (Vn (i*q^0%n)):=yaZ (j:=0) (by rw[yay (),zee ()]);have hml:i*q^(L-1)%n<n:=xAC _ hn;refine⟨_,rfl,_,rfl,l,_,_,_,rfl,rfl,SqL.of el,hlast,_,rfl,_,_,rfl,rfl,.inl ⟨by show -(2^64:Int)<((i*q^(L-1)%n:Nat):Int);omega,by show((i*q^(L-1)%n:Nat):Int)<2^64;omega⟩,?_⟩;refine⟨_,rfl,_,_,rfl,rfl,by show(0:Int)<n;omega,?_⟩;refine⟨_,rfl,l,_,_,_,rfl,rfl,SqL.of el,hfirst,rfl,_,rfl,?_⟩;have en:(i*q^(L-1)%n)*q%n=i*q^L%n:=by
  rw[Nat.mod_mul_mod,Nat.mul_assoc,<-xAD,show(L-1).succ=L by omega]
 have e0:i*q^0%n=i%n:=by rw[Nat.pow_zero,Nat.mul_one]
 refine ite2 (λc=>?_) (λc=>?_)
 ·have hne:i*q^L%n≠i%n:=by
   intro h;have:(V.int ((((i*q^(L-1)%n:Nat):Int)*(q:Int))%(n:Int)))=Vn (i*q^0%n):=by
    show V.int _=V.int _;congr 1;rw[e0,<-h,<-en];rfl
   rw[xAz this]at c;exact absurd c #[]
  have hL:L<e:=by
   rcases xAN L e with h|h
   ·exact h
   ·have hle:L=e:=by omega
    rw[hle]at hne;refine absurd ?_ hne;rw[Nat.mul_mod,hr1,<-Nat.mul_mod,Nat.mul_one]
  refine⟨λσ' H'=>H'=upd H l (.lst ((zbz i n q (L+1)).map Vn))/\σ'=[some (Vn i),some (Vn n),some (Vn q),some (.ref l)],?_,?_⟩
  ·rintro σ' H' ⟨rfl,rfl⟩;refine⟨_,?_,rfl,L+1,(),(),λj j0 j1=>?_,rfl,rfl⟩
   case refine_2=>
    rcases xAN j L with h|h
    ·exact hne0 j j0 h
    ·rw[show j=L by omega];exact hne
   rw[zbV yab,zbV yab,xA1,xA1,ll,show(zbz i n q (L+1)).length=L+1 by simp[zbz]];omega
  ·refine⟨_,rfl,.inl ⟨rfl,_,SqL.of el⟩,?_⟩;refine⟨_,rfl,_,rfl,l,_,_,_,rfl,rfl,SqL.of el,hlast,_,rfl,_,_,rfl,rfl,.inl ⟨by show -(2^64:Int)<((i*q^(L-1)%n:Nat):Int);omega,by show((i*q^(L-1)%n:Nat):Int)<2^64;omega⟩,?_⟩;refine⟨_,rfl,_,_,rfl,rfl,by show(0:Int)<n;omega,?_⟩;refine⟨l,_,_,rfl,rfl,el,by rw[xA1,ll];exact zal (),?_,rfl⟩;rw[yek];congr 2;have e1:zbz i n q (L+1)=zbz i n q L++[i*q^L%n]:=by unfold zbz;rw[xBa,xA8];rfl
   rw[e1,xA8,<-en];rfl
 ·have heq:i*q^L%n=i*q^0%n:=by
   have h:decide (V.int ((((i*q^(L-1)%n:Nat):Int)*(q:Int))%(n:Int))=Vn (i*q^0%n))=true:=by
    rcases hb:decide (V.int ((((i*q^(L-1)%n:Nat):Int)*(q:Int))%(n:Int))=Vn (i*q^0%n)) with _|_
    ·exact absurd (show(!decide (V.int ((((i*q^(L-1)%n:Nat):Int)*(q:Int))%(n:Int))=Vn (i*q^0%n)))=true by rw[hb];rfl) c
    ·rfl
   have h2:=V.int.inj (xAh h);rw[<-en];exact Int.ofNat.inj h2
  refine⟨_,rfl,q' l (zbz i n q L) _ (zac hl _) hl el (by rw[ll];omega) (by rw[ll];omega) (λx hx=>?_) (λx hx=>?_) ?_ (λx hx=>?_) (ygF heq ())⟩
  rotate_left 2
  ·refine yfs hr1 () hne0
  ·obtain⟨j,_,rfl⟩:=xAe.mp hx;exact⟨j,rfl⟩
  ·obtain⟨j,_,rfl⟩:=xAe.mp hx;exact xAC _ hn
  ·obtain⟨j,hj,rfl⟩:=xAe.mp hx;have hj:=xAu.mp hj;have e2:i*q^j%n*q%n=i*q^(j+1)%n:=by rw[Nat.mod_mul_mod,Nat.mul_assoc,<-xAD]
   rw[e2];by_cases cj:j+1<L
   ·exact xAe.mpr ⟨j+1,xAu.mpr cj,rfl⟩
   ·rw[show j+1=L by omega,heq];exact xAe.mpr ⟨0,xAu.mpr (),rfl⟩
theorem ygG(a b:Nat):decide (V.int ((a:Int)%(b:Int))=V.int 0)=decide (a%b=0) :=
 decide_eq_decide.mpr ⟨λe=>Int.ofNat.inj (show Int.ofNat (a%b)=Int.ofNat 0 from V.int.inj e),λe=>congrArg V.int (show Int.ofNat (a%b)=Int.ofNat 0 from congrArg Int.ofNat e)⟩
structure Whl(p m t few root n:Nat)(marks:List Nat):Prop where
 few1:1<=few
 fewm:m%few=0
 r0:0<root
 rq:root<p^m
 ord:Ord p m t root n
 nq:n<=p^m-1
 asc:marks.Pairwise (· < ·)
 lt:∀x∈marks,x<n
 closed:∀x∈marks,x*p^few%n∈marks
structure WhAt(H:Hp)(wh fa mk:Addr)(few root:Nat)(marks:List Nat):Prop where
 w:H wh=some (.tup [.ref fa,Vn few,Vn root,.ref mk])
 k:H mk=some (.tup (marks.map Vn))
theorem WhAt.same{H H':Hp}{wh fa mk:Addr}{few root:Nat}{marks:List Nat}(h:WhAt H wh fa mk few root marks)(s:Same H H'):WhAt H' wh fa mk few root marks:=⟨s _ _ h.w,s _ _ h.k⟩
theorem WhAt.x{pu g:Addr}{H H':Hp}{wh fa mk:Addr}{few root:Nat}{marks:List Nat}(h:WhAt H wh fa mk few root marks)(n1:wh≠pu/\wh≠g)(n2:mk≠pu/\mk≠g)(s:zaq pu g H H'):WhAt H' wh fa mk few root marks:=⟨s _ _ n1.1 n1.2 h.w,s _ _ n2.1 n2.2 h.k⟩
noncomputable def zbr(p m t:Nat)(H:Hp)(a:Addr):Prop:=∃n x:Nat,H a=some (.tup [Vn n,Vn x])/\Ord p m t x n/\n<=p^m-1/\0<x/\x<p^m
theorem zbr.same{p m t:Nat}{H H':Hp}{a:Addr}(h:zbr p m t H a)(s:Same H H'):zbr p m t H' a:=by obtain⟨n,x,h1,r⟩:=h;exact⟨n,x,s _ _ h1,r⟩
theorem Pu.tup_ne{H:Hp}{pu g a:Addr}{xs:List V}(h:Pu H pu g)(e:H a=some (.tup xs)):a≠pu/\a≠g:=by
 obtain⟨ns,s,t,h1,h2⟩:=h;exact⟨λq=>(by rw[q,h1]at e;cases e),λq=>(by rw[q,h2]at e;cases e)⟩
noncomputable def pn(H:Hp)(a:Addr):Nat:=match H a with
 |some (.tup (.int n::_))=>n.toNat
 |_=>0
theorem zcs{H:Hp}{a:Addr}{n x:Nat}(h:H a=some (.tup [Vn n,Vn x])):pn H a=n:=by unfold pn;rw[h];rfl
theorem zb5{α:Type}{xs:List α}{k:Nat}{a:α}(h:xs[k]?=some a):xs.take (k+1)=xs.take k++[a]:=by
 obtain⟨hk,e⟩:=xAo.mp h;rw[List.take_succ_eq_append_getElem hk,e]
theorem yep{ts:List Addr}{k:Nat}{z:V}(h:(ts.map V.ref)[k]?=some z):∃a,ts[k]?=some a/\z = .ref a:=by
 rw[xA9]at h;rcases e:ts[k]? with _|a
 ·rw[e]at h;cases h
 ·rw[e]at h;exact⟨a,rfl,(xAw h).symm⟩
noncomputable def ydT:Sp:=λvs H Q _=>∃(pu g:Addr) (most:Nat),vs=[.ref pu,Vn most]/\Pu H pu g/\1<=most/\
 ∀(r tb fa pa la wh mk:Addr) (p m t b few root n:Nat) (marks:List Nat) H',H' r=some (.tup [.ref tb,.ref wh])->Tab H' tb fa pa la p m t b->zg1 pu g tb fa pa la->WhAt H' wh fa mk few root marks->(wh≠pu/\wh≠g)->(mk≠pu/\mk≠g)->(r≠pu/\r≠g)->Whl p m t few root n marks->n<=most->Pu H' pu g->zaq pu g H H'->Q (.ref r) H'
theorem zaj:yah ["_law_purse_here","_law_most","_law_way","_law_far","_law_table_here","_law_fews","_law_few","_law_q","_law_rounds","_law_greatest","_law_n","_law_root","_law_marks","_law_first","_law_many","_law_k"] ["_law_purse_here","_law_most"] (zae yaF):=⟨rfl,rfl,rfl,∅,rfl,∅,∅⟩
theorem zf0(B:Bl mg)(xBE:Has P w K mg base 1 "_law_pick" ["_law_purse_here","_law_many"] ycr)(xBA:Has P w K mg base 4 "_law_field" ["_law_purse_here"] zeP)(xBN:Has P w K mg base 3 "_law_table" ["_law_field_here"] ye2)(xBJ:Has P w K mg base 1 "_law_raised" ["_law_one","_law_many"] yam)
  (xBL:Has P w K mg base 2 "_law_round" ["_law_table_here","_law_one"] yc0) (xBK:Has P w K mg base 1 "_law_ring" ["_law_i","_law_n","_law_q"] zcE) (F:Fun K "_law_wheel" "_law_wheel" yaF f fd):FnOk P w K mg base CX0 5 f fd ["_law_purse_here","_law_most"] ydT:=by
 refine F.ok zaj (λvs H Q E h=>?_) (λcdv A outer s H vs Q E hr h=>?_)
 ·obtain⟨pu,g,most,rfl,_⟩:=h;rfl
 obtain⟨pu,g,most,rfl,hP,hmost,q⟩:=h;refine⟨_,(yaa (@zbI _ _ 2 3 _ _ _ _ _ _ _ _ _ _ _ rfl zaj.nd rfl rfl #[] rfl rfl (zaa (zad xBE hr #[] rfl (zaa (pv 0) (zaa yac zab ⋯) ⋯) #[] ⋯ ⋯) (zaa (zad xBE hr #[] rfl (zaa (pv 0) (zaa yac zab ⋯) ⋯) #[] ⋯ ⋯) zab ⋯) ⋯) rfl ⋯) (yaa (@yaf _ _ 4 _ _ _ _ zaj.nd rfl (Or.inr rfl) (zad xBN hr #[] rfl (zaa (zad xBA hr #[] rfl (zaa (pv 0) zab ⋯) #[] ⋯ ⋯) zab ⋯) #[] ⋯ ⋯) ⋯ (by trivial)) (yaa (@ych _ 5 _ _ _ _ _ _ _ _ _ ["_law_few"] ["_law_table_here"] [4] _ _ _ _ zaj.nd rfl (Or.inl rfl) (id (α:=CSc ["_law_purse_here","_law_most","_law_way","_law_far","_law_table_here","_law_fews","_law_few","_law_q","_law_rounds","_law_greatest","_law_n","_law_root","_law_marks","_law_first","_law_many","_law_k"] (zae yaF) ["_law_few"] ["_law_table_here"] [4] _) ⟨by rfl,∅,∅,∅,∅,by rfl,∅⟩) rfl (@zca _ _ _ _ _ _ _ rfl (B "range" #[]) (zaa yac (zaa (zag yav (@zaH _ _ _ _ _ _ (ybG hr) (pv 4) yaN (λ_ _=>rfl)) yac) zab ⋯) ⋯) ⋯ ⋯) (λcl C fp s H=>(@yae _ _ 0 _ (by show List.Nodup (["_law_few","_law_table_here"]:List Str);decide +kernel) rfl (Or.inl rfl) (by trivial))) (λ_ _ _ _ _=>(@ycB _ _ _ (@zai _ _ _ _ _ _ _ _ za4 (zag zaC (@zaH _ _ _ _ _ _ (ybG hr) (pv 1) yaN (λ_ _=>rfl)) (pv 0)) yac (yaj _)))) (λ_ _ _ _ _=>(pv 0)) ⋯ (by intro _;rfl) (by trivial)) (yaa (@yaf _ _ 6 _ _ _ _ zaj.nd rfl (Or.inl rfl) (zao yan (pv 5) (zad xBE hr #[] rfl (zaa (pv 0) (zaa (zam zak rfl (B "len" #[]) xAR (zaa (pv 5) zab ⋯) #[] #[] ⋯ ⋯) zab ⋯) ⋯) #[] ⋯ ⋯) (λ_ _=>rfl)) ⋯ (by trivial)) (yaa (@yaf _ _ 7 _ _ _ _ zaj.nd rfl (Or.inl rfl) (zad xBJ hr #[] rfl (zaa (@zaH _ _ _ _ _ _ (ybG hr) (pv 4) yaN (λ_ _=>rfl)) (zaa (pv 6) zab ⋯) ⋯) #[] ⋯ ⋯) ⋯ (by trivial)) (yaa (@ych _ 8 _ _ _ _ _ _ _ _ _ ["_law_one"] ["_law_table_here"] [4] _ _ _ _ zaj.nd rfl (Or.inl rfl) (id (α:=CSc ["_law_purse_here","_law_most","_law_way","_law_far","_law_table_here","_law_fews","_law_few","_law_q","_law_rounds","_law_greatest","_law_n","_law_root","_law_marks","_law_first","_law_many","_law_k"] (zae yaF) ["_law_one"] ["_law_table_here"] [4] _) ⟨by rfl,∅,∅,∅,∅,by rfl,∅⟩) rfl (@zca _ _ _ _ _ _ _ rfl (B "range" #[]) (zaa yac (zaa (@zaH _ _ _ _ _ _ (ybG hr) (pv 4) yaN (λ_ _=>rfl)) zab ⋯) ⋯) ⋯ ⋯) (λcl C fp s H=>(@yae _ _ 0 _ (by show List.Nodup (["_law_one","_law_table_here"]:List Str);decide +kernel) rfl (Or.inl rfl) (by trivial))) (λ_ _ _ _ _=>yaD) (λ_ _ _ _ _=>(@zaV _ _ _ _ _ (zaa (zad xBL hr #[] rfl (zaa (pv 1) (zaa (pv 0) zab ⋯) ⋯) #[] ⋯ ⋯) (zaa (pv 0) zab ⋯) ⋯))) ⋯ (by intro _;rfl) (by trivial)) (yaa (@ych _ 8 _ _ _ _ _ _ _ _ _ ["_law_pair"] ["_law_most"] [1] _ _ _ _ zaj.nd rfl (Or.inl rfl) (id (α:=CSc ["_law_purse_here","_law_most","_law_way","_law_far","_law_table_here","_law_fews","_law_few","_law_q","_law_rounds","_law_greatest","_law_n","_law_root","_law_marks","_law_first","_law_many","_law_k"] (zae yaF) ["_law_pair"] ["_law_most"] [1] _) ⟨by rfl,∅,∅,∅,∅,by rfl,∅⟩) rfl (@ybc _ _ _ _ (pv 8)) (λcl C fp s H=>(@yae _ _ 0 _ (by show List.Nodup (["_law_pair","_law_most"]:List Str);decide +kernel) rfl (Or.inl rfl) (by trivial))) (λ_ _ _ _ _=>(@ycB _ _ _ (@zai _ _ _ _ _ _ _ _ ziD (zao (ydG (K:=K) rfl) (pv 0) yac (λ_ _=>rfl)) (pv 1) (yaj _)))) (λ_ _ _ _ _=>(pv 0)) ⋯ (by intro _;rfl) (by trivial)) (yaa (@yaf _ _ 9 _ _ _ _ zaj.nd rfl (Or.inr rfl) (zam (zfL rfl) rfl (B "max" #[]) zc3 (zaa (@zaI _ _ _ _ _ _ _ ["_law_pair"] [] [] _ _ _ _ (id (α:=CSc ["_law_purse_here","_law_most","_law_way","_law_far","_law_table_here","_law_fews","_law_few","_law_q","_law_rounds","_law_greatest","_law_n","_law_root","_law_marks","_law_first","_law_many","_law_k"] (zae yaF) ["_law_pair"] [] [] _) ⟨by rfl,∅,∅,∅,∅,by rfl,∅⟩) rfl (@ybc _ _ _ _ (pv 8)) (λcl C fp s H=>(@yae _ _ 0 _ (by show List.Nodup (["_law_pair"]:List Str);decide +kernel) rfl (Or.inl rfl) (by trivial))) (λ_ _ _ _ _=>yaD) (λ_ _ _ _ _=>(zao (ydG (K:=K) rfl) (pv 0) yac (λ_ _=>rfl))) (by intro _;rfl)) zab ⋯) #[] #[] ⋯ ⋯) ⋯ (by trivial)) (yaa (@yaS _ _ _ _ _ _ _ _ (@zai _ _ _ _ _ _ _ _ yb3 (pv 3) yac (yaj _)) (yad (@ych _ 8 _ _ _ _ _ _ _ _ _ ["_law_pair"] ["_law_greatest"] [9] _ _ _ _ zaj.nd rfl (Or.inl rfl) (id (α:=CSc ["_law_purse_here","_law_most","_law_way","_law_far","_law_table_here","_law_fews","_law_few","_law_q","_law_rounds","_law_greatest","_law_n","_law_root","_law_marks","_law_first","_law_many","_law_k"] (zae yaF) ["_law_pair"] ["_law_greatest"] [9] _) ⟨by rfl,∅,∅,∅,∅,by rfl,∅⟩) rfl (@ybc _ _ _ _ (pv 8)) (λcl C fp s H=>(@yae _ _ 0 _ (by show List.Nodup (["_law_pair","_law_greatest"]:List Str);decide +kernel) rfl (Or.inl rfl) (by trivial))) (λ_ _ _ _ _=>(@ycB _ _ _ (@zai _ _ _ _ _ _ _ _ za4 (zao (ydG (K:=K) rfl) (pv 0) yac (λ_ _=>rfl)) (pv 1) (yaj _)))) (λ_ _ _ _ _=>(pv 0)) ⋯ (by intro _;rfl) (by trivial))) zas) (yaa (@za5 _ _ _ _ _ _ (zao yan (pv 8) (zad xBE hr #[] rfl (zaa (pv 0) (zaa (zam zak rfl (B "len" #[]) xAR (zaa (pv 8) zab ⋯) #[] #[] ⋯ ⋯) zab ⋯) ⋯) #[] ⋯ ⋯) (λ_ _=>rfl)) (@zaX _ _ _ _ _ _ rfl (yag (@yae _ _ 10 _ zaj.nd rfl (Or.inl rfl) (by trivial)) (yag (@yae _ _ 11 _ zaj.nd rfl (Or.inl rfl) (by trivial)) yaE ⋯) ⋯) ⋯ ⋯) ⋯ ⋯ ⋯) (yaa (@yaf _ _ 12 _ _ _ _ zaj.nd rfl (Or.inl rfl) (@yaI _ _ _ _ zab) ⋯ (by trivial)) (yaa (@yaS _ _ _ _ _ _ _ _ (@zai _ _ _ _ _ _ _ _ za4 (pv 2) yac (yaj _)) (yad (@yaf _ _ 12 _ _ _ _ zaj.nd rfl (Or.inl rfl) (yaq (ydx rfl) rfl (B "list" #[]) ybl (zaa (@zdZ _ _ _ _ _ rfl (B "range" #[]) (zaa (pv 10) zab ⋯) ⋯) zab ⋯) #[] #[] ⋯ ⋯) ⋯ (by trivial))) (yad (@yaS _ _ _ _ _ _ _ _ (@zai _ _ _ _ _ _ _ _ za4 (pv 2) yac (yaj _)) (yad (@yaf _ _ 12 _ _ _ _ zaj.nd rfl (Or.inl rfl) (zad xBK hr #[] rfl (zaa (zad xBE hr #[] rfl (zaa (pv 0) (zaa (pv 10) zab ⋯) ⋯) #[] ⋯ ⋯) (zaa (pv 10) (zaa (pv 7) zab ⋯) ⋯) ⋯) #[] ⋯ ⋯) ⋯ (by trivial))) (yad (@yaS _ _ _ _ _ _ _ _ (@zai _ _ _ _ _ _ _ _ yb3 (pv 2) yac (yaj _)) (yaa (@zbI _ _ 13 14 _ _ _ _ _ _ _ _ _ _ _ rfl zaj.nd rfl rfl #[] rfl rfl (zaa (zad xBE hr #[] rfl (zaa (pv 0) (zaa (pv 10) zab ⋯) ⋯) #[] ⋯ ⋯) (zaa (zad xBE hr #[] rfl (zaa (pv 0) (zaa (pv 10) zab ⋯) ⋯) #[] ⋯ ⋯) zab ⋯) ⋯) rfl ⋯) (yad (@zaF _ _ _ _ _ _ _ _ xAi rfl (@yaG _ _ _ _ _ _ rfl (B "range" #[]) (zaa (pv 14) zab ⋯) ⋯) (@yae _ _ 15 _ zaj.nd rfl (Or.inl rfl) (by trivial)) (yad (@yaS _ _ _ _ _ _ _ _ (@PW.pt _ _ _ (@yfp _ _ _ _ _ _ _ (@zai _ _ _ _ _ _ _ _ yb3 (pv 2) yac (yaj _)) (@zde _ _ _ _ (@zai _ _ _ _ _ _ _ _ za4 (zad xBE hr #[] rfl (zaa (pv 0) (zaa yac zab ⋯) ⋯) #[] ⋯ ⋯) yac (yaj _))))) (yad (@yaf _ _ 12 _ _ _ _ zaj.nd rfl (Or.inl rfl) (zag yfB (pv 12) (zad xBK hr #[] rfl (zaa (zag yav (pv 13) (pv 15)) (zaa (pv 10) (zaa (pv 7) zab ⋯) ⋯) ⋯) #[] ⋯ ⋯)) ⋯ (by trivial))) zas)) (by intro _;rfl)))) zas))))) (yad (@yai _ _ _ _ (@zaV _ _ _ _ _ (zaa (pv 4) (zaa (@zaV _ _ _ _ _ (zaa (@zaH _ _ _ _ _ _ (ybG hr) (pv 4) yaN (λ_ _=>rfl)) (zaa (pv 6) (zaa (pv 11) (zaa (yaq yap rfl (B "tuple" #[]) zap (zaa (@zfo _ _ _ _ _ _ _ rfl rfl (B "sorted" #[]) rfl (B "set" #[]) (pv 12) ⋯ ⋯) zab ⋯) #[] #[] ⋯ ⋯) zab ⋯) ⋯) ⋯) ⋯)) zab ⋯) ⋯)))))))))))))))),?_⟩
 refine⟨_,rfl,pu,g,6,rfl,hP,(),(),λway H1 hway hP1 sx1=>?_⟩;refine⟨_,rfl,pu,g,3,rfl,hP1,(),(),λfar H2 hfar hP2 sx2=>?_⟩;refine⟨_,_,rfl,?_⟩;refine⟨_,rfl,pu,g,rfl,hP2,λfa p m t H3 nf1 nf2 nf ef G hP3 sx3=>?_⟩;refine⟨fa,p,m,t,rfl,ef,G,λtb pa la b H4 ntb npa nla T4 s4=>?_⟩;have hP4:=hP3.same s4;have ap:zg1 pu g tb fa pa la:=⟨(hP3.lt ntb).1,(hP3.lt ntb).2,nf1,nf2,(hP3.lt npa).1,(hP3.lt npa).2,(hP3.lt nla).1,(hP3.lt nla).2⟩
 have sx4:=(sx1.trans (sx2.trans sx3)).trans (Same.x s4);have hp:=G.hp;have hm:=G.hm;have hQ:=G.hq;have hQ2:=yax hp hm;have hm6:=m_le hp hQ;refine⟨_,rfl,tb,_,rfl,T4.get yij,_,_,rfl,rfl,?_⟩;refine⟨1,((m+1:Nat):Int),rfl,(),?_⟩;refine zav zaZ (λk acc H'=>H'=H4/\∃fs:List Nat,acc=fs.map Vn/\(∀f∈fs,1<=f/\m%f=0)/\fs.length<=k/\(0<k->0<fs.length)) ⟨rfl,([]:List Nat),rfl,λf hf=>absurd hf (by simp),xA4 _,λh=>absurd h (Nat.lt_irrefl _)⟩ (λ_ _ _ _ _=>trivial) ?_ ?_ ?_
 ·rintro k acc H' hk ⟨_,fs,rfl,_,hl,_⟩;rw[xA1];exact zal ()
 ·rintro k acc x H' H'' hk ⟨rfl,fs,rfl,hfs,hl,h0⟩ ⟨rfl,rfl⟩;refine⟨_,rfl,tb,_,rfl,T4.get yij,_,rfl,_,_,rfl,rfl,by show(0:Int)<1+(k:Int);omega,rfl,_,rfl,?_⟩;have ed:decide (V.int ((m:Int)%(1+(k:Int)))=V.int 0)=decide (m%(1+k)=0):=by rw[show(1+(k:Int))=((1+k:Nat):Int) by omega];exact ygG _ _
  refine ite2 (λc=>?_) (λc=>?_)
  ·have c1:m%(1+k)=0:=by rw[ed]at c;exact xAh c
   refine⟨_,rfl,rfl,fs++[1+k],?_,?_,by simp;omega,λ_=>by simp⟩
   ·rw[xA8,show V.int (1+(k:Int))=Vn (1+k) from ydw ()];rfl
   ·intro f hf;rcases xAB.mp hf with h|h
    ·exact hfs f h
    ·cases xAJ.mp h;exact⟨(),c1⟩
  ·refine⟨rfl,fs,rfl,hfs,(),λ_=>?_⟩;by_cases c0:k=0
   ·subst c0;refine absurd ?_ c;rw[ed,xAz (by show m%1=0;exact Nat.mod_one m)]
   ·exact h0 ()
 rintro acc H5 ⟨rfl,fs,rfl,hfs,hfl,hf0⟩ fl hfl';have hfl2:fs.length<=m:=by omega
 have hf1:0<fs.length:=hf0 ();have s5:=zac hfl' (.lst (fs.map Vn));have T5:=T4.same s5;have hP5:=hP4.same s5;have nfl:=hP4.lt hfl';have e5:upd H5 fl (.lst (fs.map Vn)) fl=some (.lst (fs.map Vn)):=yab;have sx5:=sx4.trans (Same.x s5);dsimp only[yaw];generalize upd H5 fl (.lst (fs.map Vn))=H5' at s5 T5 hP5 e5 sx5 ⊢;refine⟨_,rfl,_,rfl,_,rfl,fl,_,rfl,.inl (SqL.of e5),?_⟩;refine⟨pu,g,fs.length,by rw[xA1];rfl,hP5,hf1,(),λfi H6 hfi hP6 sx6=>?_⟩;have hfew:=hfs (fs.getD fi 0) (by
  have:=List.getElem_mem hfi
  rwa [show fs.getD fi 0=fs[fi] by simp[List.getD,hfi]])
 have e6:=sx6 _ _ nfl.1 nfl.2 e5;have sx6':=sx5.trans sx6;refine⟨fl,_,_,Vn (fs.getD fi 0),rfl,rfl,SqL.of e6,yaZ (yay hfi),?_⟩;generalize fs.getD fi 0=few at hfew ⊢;have hfewm:few<=m:=Nat.le_of_dvd () (xAV hfew.2);have T6:=T5.x ap sx6;dsimp only[yaw];refine⟨_,rfl,tb,_,rfl,T6.get zhn,_,rfl,p,few,rfl,p_le hp hm hQ,(),?_⟩;have hqq:p^few<=64:=xAM (xB6 () hfewm) hQ;dsimp only[yaw];refine⟨_,rfl,tb,_,rfl,T6.get ycG,?_⟩;refine⟨1,((p^m:Nat):Int),rfl,(),?_⟩;refine zav zaZ (λk acc H'=>Same H6 H'/\∃ts:List Addr,acc=ts.map V.ref/\ts.length=k/\(∀a∈ts,zbr p m t H' a)/\(0<k->∃a∈ts,pn H' a=1)) ⟨Same.refl _,([]:List Addr),rfl,rfl,λa ha=>absurd ha (by simp),λh=>absurd h (Nat.lt_irrefl _)⟩ (λ_ _ _ _ _=>trivial) ?_ ?_ ?_
 ·rintro k acc H' hk ⟨_,ts,rfl,hl,_⟩;rw[xA1,hl];exact zal ()
 ·rintro k acc x H' H'' hk ⟨s',ts,rfl,hl,hts,h1⟩ ⟨rfl,rfl⟩;have hk2:1+k<p^m:=by omega
  refine⟨_,rfl,_,rfl,tb,fa,pa,la,p,m,t,b,1+k,?_,T6.same s',(),hk2,λn o hn=>?_⟩
  ·rw[show(1+(k:Int))=((1+k:Nat):Int) by omega];rfl
  refine⟨_,rfl,szl 2,λa ha=>?_⟩;have sn:=zac ha (.tup [Vn n,.int (1+(k:Int))]);have en:upd H'' a (.tup [Vn n,.int (1+(k:Int))]) a=some (.tup [Vn n,Vn (1+k)]):=by rw[yab];congr 1
  refine⟨s'.trans sn,ts++[a],by rw[xA8];rfl,by simp[hl],?_,?_⟩
  ·intro a' ha';rcases xAB.mp ha' with h|h
   ·exact(hts a' h).same sn
   ·cases xAJ.mp h;exact⟨n,1+k,en,o,hn,(),hk2⟩
  ·intro _;by_cases c0:k=0
   ·subst c0;refine⟨a,by simp,?_⟩;rw[zcs en];have h2:=o.pos;have h3:=o.le (k:=1) () (by rw[ybY hp hm ()]);omega
   ·obtain⟨a',ha',e'⟩:=h1 ();obtain⟨n',x',hx',_⟩:=hts a' ha';exact⟨a',xAG _ ha',by rw[zcs (sn _ _ hx'),<-zcs hx'];exact e'⟩
 rintro acc H7 ⟨s7,ts,rfl,htl,hts,hone⟩ rl hrl;have htl2:ts.length=p^m-1:=by
  rw[htl,show((p^m:Nat):Int)-1=((p^m-1:Nat):Int) by omega];rfl
 obtain⟨a1,ha1,ea1⟩:=hone ();have s7':=s7.trans (zac hrl (.lst (ts.map V.ref)));have T7:=T6.same s7';have hP7:=hP6.same s7';have nrl:=(hP6.same s7).lt hrl;have e7:upd H7 rl (.lst (ts.map V.ref)) rl=some (.lst (ts.map V.ref)):=yab;have hts7:∀a∈ts,zbr p m t (upd H7 rl (.lst (ts.map V.ref))) a:=λa ha=>(hts a ha).same (zac hrl _)
 have ea7:pn (upd H7 rl (.lst (ts.map V.ref))) a1=1:=by
  obtain⟨n',x',hx',_⟩:=hts a1 ha1;rw[zcs (zac hrl _ _ _ hx'),<-zcs hx'];exact ea1
 have sx7:=sx6'.trans (Same.x s7');dsimp only[yaw];generalize upd H7 rl (.lst (ts.map V.ref))=H8 at s7' T7 hP7 e7 hts7 ea7 sx7 ⊢;refine⟨_,rfl,rl,rfl,⟨_,SqL.of e7⟩,?_⟩;refine zav (yaT (xs:=ts.map V.ref)) (λk acc H'=>H'=H8/\acc=((ts.take k).filter λa=>decide (pn H8 a<=most)).map V.ref) ⟨rfl,rfl⟩ (λi acc H' _ h=>h.1 ▸ SqL.of e7) ?_ ?_ ?_
 ·rintro k acc H' hk ⟨_,rfl⟩;have:=xBl (λa=>decide (pn H8 a<=most)) (ts.take k);rw[xAH]at this;rw[xA1];exact zal ()
 ·rintro k acc z H' H'' hk ⟨rfl,rfl⟩ ⟨rfl,ez⟩;obtain⟨a,ea,rfl⟩:=yep ez;obtain⟨n,x,hx,_⟩:=hts7 a (xBo ea);refine⟨_,rfl,a,_,_,Vn n,rfl,rfl,SqT.of hx,rfl,_,rfl,_,_,rfl,rfl,_,rfl,?_⟩;rw[zb5 ea,List.filter_append];refine ite2 (λc=>?_) (λc=>?_)
  ·have c1:n<=most:=by have:=xAh c;omega
   refine⟨_,rfl,rfl,?_⟩;rw[xA8];simp[zcs hx,c1]
  ·have c1:¬ n<=most:=λh=>c (xAz ())
   refine⟨rfl,?_⟩;simp[zcs hx,c1]
 rw[xA1];rintro acc H9 ⟨rfl,rfl⟩ r2 hr2;rw[xAX];obtain⟨us,hus⟩:∃us,us=ts.filter λa=>decide (pn H9 a<=most):=⟨_,rfl⟩
 rw[<-hus];have hu1:∀a∈us,zbr p m t H9 a/\pn H9 a<=most:=λa ha=>by
  rw[hus]at ha;have:=xBx.mp ha;exact⟨hts7 a this.1,xAh this.2⟩
 have hu0:a1∈us:=by rw[hus];exact xBx.mpr ⟨ha1,xAz (by rw[ea7];exact hmost)⟩
 have hul:us.length<=63:=by
  have:=xBl (λa=>decide (pn H9 a<=most)) ts;rw[<-hus]at this;omega
 clear hus;have pk:∀ {H H':Hp},Same H H'->∀a,zbr p m t H a->pn H' a=pn H a:=λs a ⟨n,x,h,_⟩=>by rw[zcs (s _ _ h),zcs h]
 have s9:=zac hr2 (.lst (us.map V.ref));have T9:=T7.same s9;have hP9:=hP7.same s9;have n2:=hP7.lt hr2;have e9:upd H9 r2 (.lst (us.map V.ref)) r2=some (.lst (us.map V.ref)):=yab;have hu9:∀a∈us,zbr p m t (upd H9 r2 (.lst (us.map V.ref))) a/\pn (upd H9 r2 (.lst (us.map V.ref))) a<=most:=λa ha=>⟨(hu1 a ha).1.same s9,by rw[pk s9 a (hu1 a ha).1];exact(hu1 a ha).2⟩
 have sx9:=sx7.trans (Same.x s9);dsimp only[yaw];generalize upd H9 r2 (.lst (us.map V.ref))=HA at s9 T9 hP9 e9 hu9 sx9 ⊢;refine⟨_,rfl,r2,rfl,⟨_,SqL.of e9⟩,?_⟩;refine zav (yaT (xs:=us.map V.ref)) (λk acc H'=>H'=HA/\acc=((us.take k).map (pn HA)).map Vn) ⟨rfl,rfl⟩ (λi acc H' _ h=>h.1 ▸ SqL.of e9) ?_ ?_ ?_
 ·rintro k acc H' hk ⟨_,rfl⟩;rw[xA1,xA1,xAH];exact zal ()
 ·rintro k acc z H' H'' hk ⟨rfl,rfl⟩ ⟨rfl,ez⟩;obtain⟨a,ea,rfl⟩:=yep ez;obtain⟨⟨n,x,hx,_⟩,_⟩:=hu9 a (xBo ea);refine⟨_,rfl,a,_,_,Vn n,rfl,rfl,SqT.of hx,rfl,rfl,?_⟩;rw[zb5 ea,xA8,xA8,show [a].map (pn H'')=[n] by rw[List.map_singleton,zcs hx]];rfl
 rw[xA1];rintro acc HB ⟨rfl,rfl⟩ gl' hgl';rw[xAX];refine⟨gl',(us.map (pn HB)).map (λn:Nat=>(n:Int)),rfl,SqL.of (by rw[mapI];exact yab),by rw[xA1,xA1];exact List.length_pos_of_mem hu0,λM hM1 hM2=>?_⟩;obtain⟨M,hM,rfl⟩:=xAe.mp hM1;obtain⟨aM,haM,eM⟩:=xAe.mp hM;have sB:=zac hgl' (.lst ((us.map (pn HB)).map Vn));have TB:=T9.same sB;have hPB:=hP9.same sB;have eB:=sB _ _ e9;have huB:∀a∈us,zbr p m t (upd HB gl' (.lst ((us.map (pn HB)).map Vn))) a/\pn (upd HB gl' (.lst ((us.map (pn HB)).map Vn))) a<=most:=λa ha=>⟨(hu9 a ha).1.same sB,by rw[pk sB a (hu9 a ha).1];exact(hu9 a ha).2⟩
 have eMB:pn (upd HB gl' (.lst ((us.map (pn HB)).map Vn))) aM=M:=by rw[pk sB aM (hu9 aM haM).1];exact eM
 have sxB:=sx9.trans (Same.x sB);dsimp only[yaw];generalize upd HB gl' (.lst ((us.map (pn HB)).map Vn))=HC at sB TB hPB eB huB eMB sxB ⊢;change tSeq (tIfS _ _ _) _ _ _ _;refine zbf (λσ H'=>∃(rr:Addr) (ws:List Addr),Same HC H'/\H' rr=some (.lst (ws.map V.ref))/\(rr≠pu/\rr≠g)/\0<ws.length/\ws.length<=63/\(∀a∈ws,zbr p m t H' a/\pn H' a<=most)/\
  σ=[some (.ref pu),some (Vn most),some (Vn way),some (Vn far),some (.ref tb),some (.ref fl),some (Vn few),some (Vn (p^few)),some (.ref rr),some (Vn M),none,none,none,none,none,none]) ?_ ?_
 ·rintro σ HE ⟨rr,ws,sE,eE,nrr,hw0,hw1,hws,rfl⟩;have TE:=TB.same sE;have hPE:=hPB.same sE;have sxE:=sxB.trans (Same.x sE);refine⟨_,rfl,_,rfl,_,rfl,rr,_,rfl,.inl (SqL.of eE),?_⟩;refine⟨pu,g,ws.length,by rw[xA1];rfl,hPE,hw0,(),λwi HF hwi hPF sxF=>?_⟩;have hwm:ws[wi]∈ws:=List.getElem_mem hwi;obtain⟨⟨n,root,hpr,ord,hnq,r0,rq⟩,hmo⟩:=hws _ hwm;rw[zcs hpr]at hmo;have npr:=hPE.tup_ne hpr;have hprF:=sxF _ _ npr.1 npr.2 hpr;have eF:=sxF _ _ nrr.1 nrr.2 eE;have TF:=TE.x ap sxF;have sxF':=sxE.trans sxF;have hn0:=ord.pos;refine⟨rr,_,_,.ref ws[wi],rfl,rfl,SqL.of eF,yaZ (by rw[xA9,xA7 hwi];rfl),?_⟩;refine⟨ws[wi],_,rfl,SqT.of hprF,rfl,_,_,rfl,_,_,rfl,rfl,?_⟩;refine⟨szl 0,λm0 hm0=>?_⟩;have sG:=zac hm0 (.lst []);have hPG:=hPF.same sG;have nm0:=hPF.lt hm0;have eG:upd HF m0 (.lst []) m0=some (.lst (([]:List Nat).map Vn)):=yab;have TG:=TF.same sG;have sxG:=sxF'.trans (Same.x sG);dsimp only[yaw];generalize upd HF m0 (.lst [])=HG at sG hPG eG TG sxG ⊢;have hrnd:=Ord.round G r0 rq ord hfew.2 hfew.1;have hme:1<=m/few:=Nat.div_pos hfewm hfew.1;have hme2:m/few<=6:=xAM (Nat.div_le_self _ _) hm6;change tSeq (tIfS _ _ _) _ _ _ _;refine zbf (λσ H'=>Pu H' pu g/\zaq pu g HG H'/\∃(ml:Addr) (ns:List Nat) (s13 s14 s15:Option V),H' ml=some (.lst (ns.map Vn))/\(ml≠pu/\ml≠g)/\ns.length<=400/\(∀x∈ns,x<n)/\(∀x∈ns,x*p^few%n∈ns)/\
   σ=[some (.ref pu),some (Vn most),some (Vn way),some (Vn far),some (.ref tb),some (.ref fl),some (Vn few),some (Vn (p^few)),some (.ref rr),some (Vn M),some (Vn n),some (Vn root),some (.ref ml),s13,s14,s15]) ?_ ?_
  ·rintro σ HI ⟨hPI,sxI,ml,ns,s13,s14,s15,eI,nml,hnl,hnn,hnc,rfl⟩;have TI:=TG.x ap sxI;refine⟨_,rfl,_,rfl,tb,_,rfl,TI.get zfZ,_,rfl,_,rfl,_,rfl,ml,ns.map (λn:Nat=>(n:Int)),rfl,SqL.of (by rw[mapI];exact eI),by rw[xA1];omega,?_,?_⟩
   ·intro ks hks hsub;have:=yeh (τ:=(List.range n).map λi:Nat=>(i:Int)) hks λk hk=>by
     obtain⟨x,hx,rfl⟩:=xAe.mp (hsub k hk);exact xAe.mpr ⟨x,xAu.mpr (hnn x hx),rfl⟩
    rw[xA1,xAt]at this;omega
   ·intro l2 ns' hl2 hasc hmem;obtain⟨marks,hmk⟩:∃marks:List Nat,ns'=marks.map λx:Nat=>(x:Int):=by
     refine⟨ns'.map Int.toNat,?_⟩;rw[List.map_map]
     conv=>lhs;rw[<-List.map_id ns']
     refine xAE λk hk=>?_
     obtain⟨x,_,rfl⟩:=xAe.mp ((hmem k).mp hk);rfl
    subst hmk;have hmm:∀x:Nat,x∈marks↔x∈ns:=λx=>by
     have:=hmem (x:Int);constructor
     ·intro h;obtain⟨y,hy,e⟩:=xAe.mp (this.mp (List.mem_map_of_mem h));rw[<-Int.ofNat.inj e];exact hy
     ·intro h;obtain⟨y,hy,e⟩:=xAe.mp (this.mpr (List.mem_map_of_mem h));rw[<-Int.ofNat.inj e];exact hy
    have hasc2:marks.Pairwise (· < ·):=by
     rw[List.pairwise_map]at hasc;exact hasc.imp λh=>by omega
    rw[mapI];have s2:=zac hl2 (.lst (marks.map Vn));refine⟨l2,_,rfl,.inl ⟨SqL.of yab,λmk hmk=>?_⟩⟩;have s3:=zac hmk (.tup (marks.map Vn));refine⟨szl 4,λwh hwh=>?_⟩;have s4':=zac hwh (.tup [.ref fa,Vn few,Vn root,.ref mk]);refine⟨szl 2,λr hr=>?_⟩;have s5':=zac hr (.tup [.ref tb,.ref wh]);have hP2':=hPI.same s2;have hP3':=hP2'.same s3;have hP4':=hP3'.same s4';refine q r tb fa pa la wh mk p m t b few root n marks _ yab ((((TI.same s2).same s3).same s4').same s5') ap ⟨s5' _ _ yab,s5' _ _ (s4' _ _ yab)⟩ (hP3'.lt hwh) (hP2'.lt hmk) (hP4'.lt hr) ⟨hfew.1,hfew.2,r0,rq,ord,hnq,hasc2,λx hx=>hnn x ((hmm x).mp hx),λx hx=>(hmm _).mpr (hnc x ((hmm x).mp hx))⟩ hmo (hP4'.same s5') ?_;exact(sxG.trans sxI).trans (Same.x (((s2.trans s3).trans s4').trans s5'))
  ·intro D' _ _ _ hD';refine⟨_,rfl,rfl,_,rfl,?_⟩;refine ite2 (λc=>?_) (λc=>?_)
   ·refine⟨_,rfl,(n:Int),rfl,λrg hrg=>⟨rg,0,(n:Int),rfl,yab,(),by rw[show((n:Int)-0).toNat=n by omega];exact szl _ (),λl hl=>?_⟩⟩;have s1':=zac hrg (.rng 0 (n:Int));have e1:L2.intsFrom 0 ((n:Int)-0).toNat=(List.range n).map Vn:=by
     rw[show((n:Int)-0).toNat=n by omega];unfold L2.intsFrom;refine xAE λi _=>?_
     rw[Int.zero_add]
    rw[e1];have s2':=zac hl (.lst ((List.range n).map Vn));exact hD' _ _ ⟨(hPG.same s1').same s2',Same.x (s1'.trans s2'),l,List.range n,_,_,_,yab,(hPG.same s1').lt hl,by rw[xAt];omega,λx hx=>xAu.mp hx,λx _=>xAu.mpr (xAC _ ()),rfl⟩
   ·refine⟨_,rfl,rfl,_,rfl,?_⟩;refine ite2 (λc=>?_) (λc=>?_)
    ·refine⟨_,rfl,_,rfl,pu,g,n,rfl,hPG,(),(),λi HJ hi hPJ sxJ=>?_⟩;refine⟨_,rfl,_,rfl,i,n,p^few,m/few,rfl,(),(),hqq,hme,hme2,hrnd,λr ns HK sK nr er h1 h2 h3 h4 _ _ _=>?_⟩;exact hD' _ _ ⟨hPJ.same sK,sxJ.trans (Same.x sK),r,ns,_,_,_,er,hPJ.lt nr,(),h3,h4,rfl⟩
    ·refine⟨_,rfl,_,_,rfl,rfl,_,rfl,?_⟩;refine ite2 (λc=>?_) (λc=>?_)
     ·refine⟨_,rfl,_,rfl,pu,g,n,rfl,hPG,(),(),λfirst HJ hfi hPJ sxJ=>?_⟩;refine⟨_,rfl,_,rfl,pu,g,n,rfl,hPJ,(),(),λmany HK hma hPK sxK=>?_⟩;refine⟨_,_,rfl,?_⟩;refine⟨_,rfl,many,rfl,(),(),?_⟩;have eK:=sxK _ _ nm0.1 nm0.2 (sxJ _ _ nm0.1 nm0.2 eG);refine zaU (n:=many) (λk σ H'=>Pu H' pu g/\zaq pu g HG H'/\∃(ml:Addr) (ns:List Nat) (s15:Option V),H' ml=some (.lst (ns.map Vn))/\(ml≠pu/\ml≠g)/\ns.length<=6*k/\(∀x∈ns,x<n)/\(∀x∈ns,x*p^few%n∈ns)/\
       σ=[some (.ref pu),some (Vn most),some (Vn way),some (Vn far),some (.ref tb),some (.ref fl),some (Vn few),some (Vn (p^few)),some (.ref rr),some (Vn M),some (Vn n),some (Vn root),some (.ref ml),some (Vn first),some (Vn many),s15])
       ⟨hPK,sxJ.trans sxK,m0,[],_,eK,nm0,#[],λx hx=>absurd hx (by simp),λx hx=>absurd hx (by simp),rfl⟩ ?_ ?_
      ·rintro k σ HL hk ⟨hPL,sxL,ml,ns,s15,eL,nml,hnl,hnn,hnc,rfl⟩;have body:∀HM,Pu HM pu g->zaq pu g HL HM->∀Q:V->Hp->Prop,(∀l (ns':List Nat) H',Pu H' pu g->zaq pu g HG H'->H' l=some (.lst (ns'.map Vn))->(l≠pu/\l≠g)->ns'.length<=6*(k+1)->(∀x∈ns',x<n)->(∀x∈ns',x*p^few%n∈ns')->Q (.ref l) H')->
         tOp rCat (tVar 12) (yhW zcE [] E0 (yc9 (tOp (rI0 λi j=>V.int (i+j)) (tVar 13) (tVar 15)) (yc9 (tVar 10) (yc9 (tVar 7) tNil)))) [some (.ref pu),some (Vn most),some (Vn way),some (Vn far),some (.ref tb),some (.ref fl),some (Vn few),some (Vn (p^few)),some (.ref rr),some (Vn M),some (Vn n),some (Vn root),some (.ref ml),some (Vn first),some (Vn many),some (.int (0+(k:Int)))] HM Q:=by
        intro HM hPM sxM Q hQ;have eM:=sxM _ _ nml.1 nml.2 eL;refine⟨_,rfl,_,rfl,_,rfl,_,_,rfl,rfl,_,rfl,_,rfl,first+k,n,p^few,m/few,?_,(),(),hqq,hme,hme2,hrnd,λr rs HN sN nr er h1 h2 h3 h4 _ _ _=>?_⟩
        ·show [V.int ((first:Int)+(0+(k:Int))),Vn n,Vn (p^few)]=[Vn (first+k),Vn n,Vn (p^few)]
         rw[show(first:Int)+(0+(k:Int))=((first+k:Nat):Int) by omega]
        refine⟨ml,r,_,_,rfl,rfl,sN _ _ eM,er,by rw[xA1,xA1];exact szl _ (),λl hl=>?_⟩;rw[<-xA8];have sO:=zac hl (.lst ((ns++rs).map Vn));refine hQ l (ns++rs) _ ((hPM.same sN).same sO) ((sxL.trans sxM).trans (Same.x (sN.trans sO))) yab ((hPM.same sN).lt hl) (by rw[xAx];omega) (λx hx=>?_) (λx hx=>?_)
        ·rcases xAB.mp hx with h|h
         ·exact hnn x h
         ·exact h3 x h
        ·rcases xAB.mp hx with h|h
         ·exact xAG _ (hnc x h)
         ·exact xAb _ (h4 x h)
       refine⟨_,rfl,_,_,rfl,rfl,_,rfl,?_⟩;refine ite2 (λc=>?_) (λc=>?_)
       ·refine ite2 (λ_=>?_) (λh=>absurd rfl h);exact body HL hPL zaq.refl _ λl ns' H' a1 a2 a3 a4 a5 a6 a7=>⟨a1,a2,l,ns',_,a3,a4,a5,a6,a7,rfl⟩
       ·refine⟨_,rfl,pu,g,3,rfl,hPL,(),(),λv HM hv hPM sxM=>?_⟩;refine⟨rfl,_,rfl,?_⟩;refine ite2 (λ_=>?_) (λ_=>?_)
        ·exact body HM hPM sxM _ λl ns' H' a1 a2 a3 a4 a5 a6 a7=>⟨a1,a2,l,ns',_,a3,a4,a5,a6,a7,rfl⟩
        ·exact⟨hPM,sxL.trans sxM,ml,ns,_,sxM _ _ nml.1 nml.2 eL,nml,(),hnn,hnc,rfl⟩
      ·rintro σ HL ⟨hPL,sxL,ml,ns,s15,eL,nml,hnl,hnn,hnc,rfl⟩;exact hD' _ _ ⟨hPL,sxL,ml,ns,_,_,_,eL,nml,(),hnn,hnc,rfl⟩
     ·exact hD' _ _ ⟨hPG,zaq.refl,m0,[],_,_,_,eG,nm0,#[],λx hx=>absurd hx (by simp),λx hx=>absurd hx (by simp),rfl⟩
 ·intro D' _ _ _ hD';refine⟨_,rfl,_,_,rfl,rfl,_,rfl,?_⟩;refine ite2 (λc=>?_) (λc=>?_)
  ·refine⟨_,rfl,r2,rfl,⟨_,SqL.of eB⟩,?_⟩;refine zav (yaT (xs:=us.map V.ref)) (λk acc H'=>H'=HC/\acc=((us.take k).filter λa=>decide (pn HC a=M)).map V.ref) ⟨rfl,rfl⟩ (λi acc H' _ h=>h.1 ▸ SqL.of eB) ?_ ?_ ?_
   ·rintro k acc H' hk ⟨_,rfl⟩;have:=xBl (λa=>decide (pn HC a=M)) (us.take k);rw[xAH]at this;rw[xA1];exact zal ()
   ·rintro k acc z H' H'' hk ⟨rfl,rfl⟩ ⟨rfl,ez⟩;obtain⟨a,ea,rfl⟩:=yep ez;obtain⟨⟨n,x,hx,_⟩,_⟩:=huB a (xBo ea);refine⟨_,rfl,a,_,_,Vn n,rfl,rfl,SqT.of hx,rfl,_,rfl,rfl,_,rfl,?_⟩;have ed:decide (Vn n=Vn M)=decide (n=M):=decide_eq_decide.mpr ⟨λe=>Int.ofNat.inj (V.int.inj e),λe=>by rw[e]⟩;rw[zb5 ea,List.filter_append,ed];refine ite2 (λc=>?_) (λc=>?_)
    ·have c1:n=M:=xAh c;refine⟨_,rfl,rfl,?_⟩;rw[xA8];simp[zcs hx,c1]
    ·have c1:¬ n=M:=λh=>c (xAz h)
     refine⟨rfl,?_⟩;simp[zcs hx,c1]
   rw[xA1];rintro acc HD ⟨rfl,rfl⟩ r3 hr3;rw[xAX];have s3:=zac hr3 (.lst ((us.filter λa=>decide (pn HD a=M)).map V.ref));refine hD' _ _ ⟨r3,us.filter λa=>decide (pn HD a=M),s3,yab,hPB.lt hr3,?_,?_,?_,rfl⟩
   ·exact List.length_pos_of_mem (xBx.mpr ⟨haM,xAz eMB⟩)
   ·exact xAM (xBl _ _) hul
   ·intro a ha;have h1:=huB a (xBx.mp ha).1;exact⟨h1.1.same s3,by rw[pk s3 a h1.1];exact h1.2⟩
  ·exact hD' _ _ ⟨r2,us,Same.refl _,eB,n2,List.length_pos_of_mem hu0,hul,huB,rfl⟩
end
end My
end
section
-- text: PN
namespace L2
open PySem PyProof.Rows
end L2
namespace My
open PySem L2 Dg
local macro_rules | `(tactic| walk_at "rd") => `(tactic| repeat (first | refine ⟨_, rfl, ?_⟩ | refine ⟨_, _, rfl, rfl, ?_⟩))
section
variable {P:Program} {w:World} {K:PySem.W.Frag} {mg:Str->Option Value} {base:Heap} {f:Addr} {fd:FuncData}
theorem zec(x:Nat)(marks:List Nat):inV (Vn x) (marks.map Vn)=decide (x∈marks):=by
 unfold inV;rw[List.any_map];rw[Bool.eq_iff_iff,List.any_eq_true,xBv];constructor
 ·rintro⟨y,hy,h⟩;have:((y:Int)==(x:Int))=true:=h;rw[<-Int.ofNat.inj (eq_of_beq this)];exact hy
 ·intro h;exact⟨x,h,beq_self_eq_true ((x:Nat):Int)⟩
theorem zdl(marks:List Nat):(marks.map Vn).all ydt=true:=by
 rw[xAT];intro v hv;obtain⟨x,_,rfl⟩:=xAe.mp hv;rfl
end
end My
end
section
-- text: PG
namespace My
open PySem L2 Dg
local macro_rules | `(tactic| walk_at "rd") => `(tactic| repeat (first | refine ⟨_, rfl, ?_⟩ | refine ⟨_, _, rfl, rfl, ?_⟩))
section
variable {p m t:Nat} (G:Good p m t)
include G
end
theorem ydr{K:PySem.W.Frag}{H:Hp}{a:Addr}{n:Nat}{Q:VK}(h:SqT K H a [.int 0])(hn:n<=1000)(q:∀p H',Same H H'->SqT K H' p ((List.replicate n 0).map Vn)->Q (.ref p) H'):zid K (.ref a) (Vn n) H Q:=by
 refine⟨a,n,[.int 0],rfl,rfl,h,by simp,(),(),?_,λe=>?_,λe p hp=>?_⟩
 ·rw[show((n:Int)).toNat=n from rfl];exact szl _ (by simp;omega)
 ·have e:n=1:=by omega
  subst e;exact q a H (Same.refl _) h
 ·refine q p _ (zac hp _) (SqT.of ?_);rw[yab];congr 2;rw[show((n:Int)).toNat=n from rfl,ycd]
theorem zcU{K:PySem.W.Frag}{H:Hp}{a b:Addr}{xs ys:List V}{Q:VK}(ha:SqT K H a xs)(hb:SqT K H b ys)(hz:xs.length+ys.length<=1000)(q:∀p H',Same H H'->SqT K H' p (xs++ys)->Q (.ref p) H'):zhq K (.ref a) (.ref b) H Q:=by
 refine⟨a,b,xs,ys,rfl,rfl,ha,hb,szl _ (),λe=>?_,λe1 e2=>?_,λe1 e2 p hp=>?_⟩
 ·subst e;exact q b H (Same.refl _) hb
 ·subst e2;exact q a H (Same.refl _) (by rw[List.append_nil];exact ha)
 ·exact q p _ (zac hp _) (SqT.of yab)
section
variable {P:Program} {w:World} {K:PySem.W.Frag} {mg:Str->Option Value} {base:Heap} {f:Addr} {fd:FuncData}
end
end My
end
section
-- text: PK
namespace My
open PySem L2 Dg
local macro_rules | `(tactic| walk_at "rd") => `(tactic| repeat (first | refine ⟨_, rfl, ?_⟩ | refine ⟨_, _, rfl, rfl, ?_⟩))
section
variable {P:Program} {w:World} {K:PySem.W.Frag} {mg:Str->Option Value} {base:Heap} {f:Addr} {fd:FuncData}
end
end My
end
section
-- text: PL
namespace My
open PySem L2 Dg
local macro_rules | `(tactic| walk_at "rd") => `(tactic| repeat (first | refine ⟨_, rfl, ?_⟩ | refine ⟨_, _, rfl, rfl, ?_⟩))
section
variable {p m t N:Nat} (hp:2<=p) (hm:1<=m)
include hp hm
end
noncomputable def lets(p m t few:Nat):List Nat:=(List.range (p^m)).filter λx=>decide (pw p m t x (p^few)=x)
theorem zdy{p m t few:Nat}:∀x∈lets p m t few,x<p^m:=λx hx=>xAu.mp (xBx.mp hx).1
section
variable {P:Program} {w:World} {K:PySem.W.Frag} {mg:Str->Option Value} {base:Heap} {f:Addr} {fd:FuncData}
noncomputable def mkS(p m t r:Nat)(row:List Nat):List Nat:=(List.range (row.length+1)).map λi=>sub p m ((0::row).getD i 0) (mul p m t r ((row++[0]).getD i 0))
noncomputable def mkL(p m t root:Nat)(marks:List Nat):List Nat:=marks.foldl (λrow k=>mkS p m t (pw p m t root k) row) [1]
theorem ycS(p m t r:Nat)(row:List Nat):(mkS p m t r row).length=row.length+1:=by simp[mkS]
theorem zgl(p m t root:Nat):∀(marks row:List Nat),(marks.foldl (λrow k=>mkS p m t (pw p m t root k) row) row).length=row.length+marks.length
 | [],row=>rfl
 |k::marks,row=>by rw[List.foldl_cons,zgl p m t root marks,ycS,xB8];omega
theorem zb1(p m t root:Nat)(marks:List Nat):(mkL p m t root marks).length=marks.length+1:=by unfold mkL;rw[zgl];simp;omega
theorem zgi{p m t r:Nat}(G:Good p m t){row:List Nat}:∀x∈mkS p m t r row,x<p^m:=λx hx=>by
 obtain⟨i,_,rfl⟩:=xAe.mp hx;exact zbX G.hp G.hm _ _
theorem zg8{p m t root:Nat}(G:Good p m t):∀(marks row:List Nat),(∀x∈row,x<p^m)->∀x∈marks.foldl (λrow k=>mkS p m t (pw p m t root k) row) row,x<p^m
 | [],row,h=>h
 |k::marks,row,h=>by rw[List.foldl_cons];exact zg8 G marks _ (zgi G)
theorem zdd{p m t root:Nat}(G:Good p m t)(marks:List Nat):∀x∈mkL p m t root marks,x<p^m:=zg8 G marks [1] λx hx=>by rw[xAJ.mp hx];exact yax G.hp G.hm
theorem zgx{p m t root:Nat}{marks:List Nat}{i k:Nat}(h:marks[i]?=some k):mkL p m t root (marks.take (i+1))=mkS p m t (pw p m t root k) (mkL p m t root (marks.take i)):=by
 unfold mkL;rw[zb5 h,List.foldl_append];rfl
end
end My
end
section
-- text: PM
namespace My
open PySem L2 Dg
local macro_rules | `(tactic| walk_at "rd") => `(tactic| repeat (first | refine ⟨_, rfl, ?_⟩ | refine ⟨_, _, rfl, rfl, ?_⟩))
section
variable {P:Program} {w:World} {K:PySem.W.Frag} {mg:Str->Option Value} {base:Heap} {f:Addr} {fd:FuncData}
noncomputable def ye6(K:PySem.W.Frag):Sp:=λvs H Q _=>∃(tb fa pa la a:Addr) (p m t b x:Nat) (xs:List Nat),vs=[.ref tb,.ref a,Vn x]/\Tab H tb fa pa la p m t b/\SqT K H a (xs.map Vn)/\(∀y∈xs,y<p^m)/\x<p^m/\∀H',Same H H'->Q (Vn (val p m t x xs)) H'
theorem ya8:yah ["_law_table_here","_law_row_here","_law_one","_law_found","_law_thing"] ["_law_table_here","_law_row_here","_law_one"] (zae ybN):=⟨rfl,rfl,rfl,∅,rfl,∅,∅⟩
theorem ygY(B:Bl mg)(xBF:Has P w K mg base 1 "_law_plus" ["_law_table_here","_law_one","_law_other"] zeQ)(xBO:Has P w K mg base 1 "_law_times" ["_law_table_here","_law_one","_law_other"] yb5)(F:Fun K "_law_value" "_law_value" ybN f fd):FnOk P w K mg base CX0 2 f fd ["_law_table_here","_law_row_here","_law_one"] (ye6 K):=by
 refine F.ok ya8 (λvs H Q E h=>?_) (λcdv A outer s H vs Q E hr h=>?_)
 ·obtain⟨tb,fa,pa,la,a,p,m,t,b,x,xs,rfl,_⟩:=h;rfl
 obtain⟨tb,fa,pa,la,a,p,m,t,b,x,xs,rfl,T,ha,hy,hx,q⟩:=h;have hp:=T.good.hp;have hm:=T.good.hm;refine⟨_,(yaa (@yaf _ _ 3 _ _ _ _ ya8.nd rfl (Or.inl rfl) yac ⋯ (by trivial)) (yaa (@zaF _ _ _ _ _ _ _ _ xAi rfl (@yb9 _ _ _ _ (@yho _ _ _ _ _ _ _ _ (pv 1))) (@yae _ _ 4 _ ya8.nd rfl (Or.inl rfl) (by trivial)) (yad (@yaf _ _ 3 _ _ _ _ ya8.nd rfl (Or.inl rfl) (zad xBF hr #[] rfl (zaa (pv 0) (zaa (zad xBO hr #[] rfl (zaa (pv 0) (zaa (pv 3) (zaa (pv 2) zab ⋯) ⋯) ⋯) #[] ⋯ ⋯) (zaa (pv 4) zab ⋯) ⋯) ⋯) #[] ⋯ ⋯) ⋯ (by trivial))) (by intro _;rfl)) (yad (@yai _ _ _ _ (pv 3))))),?_⟩;refine⟨_,rfl,a,_,rfl,ha,λrv hrv=>?_⟩;have s1:=zac hrv (.tup (xs.map Vn).reverse);have e1:upd H rv (.tup (xs.map Vn).reverse) rv=some (.tup (xs.reverse.map Vn)):=by rw[yab,List.map_reverse]
 generalize upd H rv (.tup (xs.map Vn).reverse)=H1 at s1 e1 ⊢;have T1:=T.same s1;refine⟨rv,rfl,⟨_,SqT.of e1⟩,?_⟩;refine yaK (za9 (xs:=xs.reverse.map Vn)) (λk σ H'=>H'=H1/\∃s4,σ=[some (.ref tb),some (.ref a),some (Vn x),some (Vn (val p m t x (xs.drop (xs.length-k)))),s4]) ⟨rfl,none,by rw[Nat.sub_zero,List.drop_length];rfl⟩ (λk σ H' _ h=>h.1 ▸ SqT.of e1) ?_ ?_
 ·rintro k z σ H2 H3 hk ⟨rfl,s4,rfl⟩ ⟨rfl,ez⟩;rw[xA1,List.length_reverse]at hk;have hk2:xs.length-1-k<xs.length:=by omega
  have ez2:z=Vn (xs.getD (xs.length-1-k) 0):=by
   rw[xA9,List.getElem?_reverse hk,xA7 hk2]at ez;rw[show xs.getD (xs.length-1-k) 0=xs[xs.length-1-k] by simp[List.getD,hk2]];exact(xAw ez).symm
  subst ez2;refine⟨_,rfl,_,rfl,_,rfl,_,rfl,tb,fa,pa,la,p,m,t,b,val p m t x (xs.drop (xs.length-k)),x,rfl,T1,zbt hp hm _ _,hx,?_⟩;refine⟨_,rfl,tb,fa,pa,la,p,m,t,b,mul p m t (val p m t x (xs.drop (xs.length-k))) x,xs.getD (xs.length-1-k) 0,rfl,T1,zaw hp hm _ _,yaM hy hk2,?_⟩;have e:xs.drop (xs.length-(k+1))=xs.getD (xs.length-1-k) 0::xs.drop (xs.length-k):=by
   rw[show xs.length-(k+1)=xs.length-1-k by omega,List.drop_eq_getElem_cons hk2];congr 1
   ·simp[List.getD,hk2]
   ·congr 1;omega
  refine⟨rfl,some (Vn (xs.getD (xs.length-1-k) 0)),?_⟩;rw[e];rfl
 ·rw[xA1,List.length_reverse];rintro σ H2 ⟨rfl,s4,rfl⟩;rw[Nat.sub_self,List.drop_zero];exact⟨_,rfl,q _ s1⟩
noncomputable def ycE(K:PySem.W.Frag):Sp:=λvs H Q _=>∃(a:Addr) (p m t x:Nat) (z:Int),vs=[.ref a,Vn x,.int z]/\Fld K H a p m t/\Good p m t/\x<p^m/\(x=0->0<=z)/\Q (Vn (pwz p m t x z)) H
theorem yg2:yah ["field","one","many"] ["field","one","many"] (zae yeM):=⟨rfl,rfl,rfl,∅,rfl,∅,∅⟩
theorem zgF(B:Bl mg)(xCd:Has P w K mg base 4 "times_itself" ["field","one","many"] (zc1 K))(xC0:Has P w K mg base 2 "many_things" ["field"] (zdq K))(F:Fun K "power" "power" yeM f fd):FnOk P w K mg base CX0 5 f fd ["field","one","many"] (ycE K):=by
 refine F.ok yg2 (λvs H Q E h=>?_) (λcdv A outer s H vs Q E hr h=>?_)
 ·obtain⟨a,p,m,t,x,z,rfl,_⟩:=h;rfl
 obtain⟨a,p,m,t,x,z,rfl,hF,G,hx,hz,q⟩:=h;have hp:=G.hp;have hm:=G.hm;have hQ:=yax hp hm;unfold pwz at q;refine⟨_,(yaa (@yaS _ _ _ _ _ _ _ _ (@zai _ _ _ _ _ _ _ _ za4 (pv 2) yac (yaj _)) (yad (@yai _ _ _ _ yac)) zas) (yaa (@yaS _ _ _ _ _ _ _ _ (@zai _ _ _ _ _ _ _ _ za4 (pv 1) yac (yaj _)) (yaa (@yaS _ _ _ _ _ _ _ _ (@zai _ _ _ _ _ _ _ _ zhO (pv 2) yac (yaj _)) (yad ycH) zas) (yad (@yai _ _ _ _ yac))) zas) (yad (@yai _ _ _ _ (zad xCd hr #[] rfl (zaa (pv 0) (zaa (pv 1) (zaa (zag zaC (pv 2) (zag yaW (zad xC0 hr #[] rfl (zaa (pv 0) zab ⋯) #[] ⋯ ⋯) yac)) zab ⋯) ⋯) ⋯) #[] ⋯ ⋯))))),?_⟩;refine⟨_,rfl,rfl,_,rfl,?_⟩;by_cases cz:z=0
 ·subst cz;refine ite2 (λ_=>?_) (λh=>absurd (xAz rfl) h);have e:(if x=0 then(if (0:Int)=0 then 1 else 0) else pw p m t x ((0:Int)%(((p^m:Nat):Int)-1)).toNat)=1:=by
   by_cases c:x=0
   ·rw[if_pos c,if_pos rfl]
   ·rw[if_neg c,Int.zero_emod];rfl
  rw[e]at q;exact q
 ·refine ite2 (λh=>absurd (V.int.inj (xAh h)) cz) (λ_=>?_);dsimp only[zeh];refine⟨_,rfl,rfl,_,rfl,?_⟩;rw[yby];refine ite2 (λc=>?_) (λc=>?_)
  ·have x0:x=0:=xAh c;rw[if_pos x0,if_neg cz]at q;refine⟨_,rfl,_,_,rfl,rfl,_,rfl,?_⟩;refine ite2 (λh=>absurd (xAh h) (by have:=hz x0;omega)) (λ_=>?_);exact q
  ·have x0:¬ x=0:=λh=>c (xAz h)
   rw[if_neg x0]at q;dsimp only[zeh];refine⟨_,rfl,_,rfl,_,rfl,_,rfl,a,p,m,t,rfl,hF,p_le hp hm G.hq,by have:=m_le hp G.hq;omega,?_⟩;refine⟨_,_,rfl,rfl,_,_,rfl,rfl,by show(0:Int)<((p^m:Nat):Int)-1;omega,?_⟩;have hz0:=Int.emod_nonneg z (show((p^m:Nat):Int)-1≠0 by omega);obtain⟨k,ek⟩:=Int.eq_ofNat_of_zero_le hz0;refine⟨a,p,m,t,x,k,?_,hF,G,hx,?_⟩
   ·show [V.ref a,Vn x,V.int (z%(((p^m:Nat):Int)-1))]=[V.ref a,Vn x,Vn k]
    rw[ek]
   ·rw[ek]at q;exact q
end
end My
end
section
-- text: PT
namespace My
open PySem L2 Dg
section
variable {p m t:Nat}
section
variable (hp:2<=p) (hm:1<=m)
include hp hm
theorem ygJ(n:Nat):sumF p m n (λ_=>0)=0:=by
 have:=yba hp hm (λ_=>0) 0 n λ_ _ _=>rfl
 rw[xBu]at this;exact this
theorem ye5(a b:Nat)(f:Nat->Nat->Nat):sumF p m a (λi=>sumF p m b λj=>f i j)=sumF p m b (λj=>sumF p m a λi=>f i j):=by
 induction a with
 |zero=>exact(ygJ hp hm b).symm
 |succ a ih=>
  show add p m (sumF p m a λi=>sumF p m b λj=>f i j) (sumF p m b λj=>f a j)=sumF p m b λj=>add p m (sumF p m a λi=>f i j) (f a j)
  rw[ih,ycV hp hm]
theorem zf3(f:Nat->Nat){a:Nat}(ha:f a<p^m)(h0:∀i,i≠a->f i=0):∀n,a<n->sumF p m n f=f a
 |0,h=>absurd h ()
 |n+1,h=>by
  show add p m (sumF p m n f) (f n)=f a;by_cases e:a=n
  ·subst e;have z:=yba hp hm f 0 a λi _ h2=>h0 i ()
   rw[xBu]at z;rw[z];exact zero_add hp hm ha
  ·rw[zf3 f ha h0 n (),h0 n (),add_zero hp hm ha]
theorem zcm{x y c:Nat}(hx:x<p^m)(hy:y<p^m)(h:add p m x c=add p m y c):x=y:=by
 rw[<-zc2 hp hm (y:=c) hx,h,zc2 hp hm hy]
theorem zgU(n:Nat):sumF p m n (λ_=>1)=n%p:=by
 induction n with
 |zero=>rfl
 |succ n ih=>
  show add p m (sumF p m n λ_=>1) 1=_;rw[ih];have hlt:∀k,k%p<p:=λk=>xAC _ ()
  have hpm:p<=p^m:=Nat.le_self_pow () p;refine zbE hp (zbg hp hm _ _) (xAp (hlt _) hpm) λi hi=>?_
  rw[ybD hp hm _ _ _ hi,zhg hp hm];have hdg:∀x,x<p->dg p i x=if i=0 then x else 0:=λx hx=>by
   cases i with
   |zero=>rw[if_pos rfl];unfold dg;rw[Nat.pow_zero,Nat.div_one,xAW hx]
   |succ i=>
    rw[if_neg ()];unfold dg;rw[Nat.div_eq_of_lt (xAp hx (Nat.le_self_pow () p)),Nat.zero_mod]
  rw[hdg _ (hlt _),hdg _ (hlt _)];unfold ybW;by_cases h0:i=0
  ·rw[if_pos h0,if_pos h0,if_pos h0,Nat.mod_add_mod]
  ·rw[if_neg h0,if_neg h0,if_neg h0,Nat.add_zero,Nat.zero_mod]
end
variable (G:Good p m t)
include G
theorem geom{z n:Nat}(hz:z<p^m)(h1:pw p m t z n=1)(hne:z≠1):sumF p m n (pw p m t z)=0:=by
 have hp:=G.hp;have hm:=G.hm;have hS:sumF p m n (pw p m t z)<p^m:=ycb hp hm _ _;have ef:=yb6 hp hm (f:=pw p m t z) (λi=>zaA hp hm _ _) n;have eg:sumF p m (n+1) (pw p m t z)=add p m (sumF p m n (pw p m t z)) 1:=by
  show add p m (sumF p m n (pw p m t z)) (pw p m t z n)=_;rw[h1]
 have es:sumF p m n (λi=>pw p m t z (i+1))=mul p m t (sumF p m n (pw p m t z)) z:=by
  rw[<-yaY hp hm];rfl
 rw[eg,es]at ef;have e0:pw p m t z 0=1:=rfl;rw[e0,add_comm hp hm 1]at ef;have e1:mul p m t (sumF p m n (pw p m t z)) z=sumF p m n (pw p m t z):=(zcm hp hm hS (zaw hp hm _ _) ef).symm;have ez:z=add p m (sub p m z 1) 1:=(zcn hp hm hz).symm;generalize sumF p m n (pw p m t z)=S at hS e1 ⊢;rw[ez,mul_add hp hm,mul_one hp hm hS]at e1;have e2:mul p m t S (sub p m z 1)=0:=by
  refine zcm hp hm (c:=S) (zaw hp hm _ _) (yao hp hm) ?_;rw[e1,zero_add hp hm hS]
 rcases xAO S with h|h
 ·exact h
 ·rcases xAO (sub p m z 1) with h2|h2
  ·rw[h2,zero_add hp hm (yax hp hm)]at ez;exact absurd ez hne
  ·have:=G.noz h hS h2 (zbX hp hm _ _);omega
theorem yhP{x n:Nat}(h0:0<x)(hx:x<p^m)(o:Ord p m t x n):n%p≠0:=by
 have hp:=G.hp;have hm:=G.hm;have h1:=o.dvd G hx (G.fermat h0 hx);intro h2;have d1:p ∣ p^m-1:=Nat.dvd_trans (xAV h2) (xAV h1);have d2:p ∣ p^m:=Nat.dvd_trans (by rw[Nat.pow_one];exact Nat.dvd_refl p) (Nat.pow_dvd_pow p hm);have d3:=Nat.dvd_sub d2 d1;have:=yax hp hm;rw[show p^m-(p^m-1)=1 by omega]at d3;have:=Nat.le_of_dvd () d3;omega
theorem Ord.inv{r s n:Nat}(hr:r<p^m)(hs:s<p^m)(e:mul p m t s r=1)(o:Ord p m t r n):Ord p m t s n:=by
 have hp:=G.hp;have hm:=G.hm;have key:∀i,pw p m t s i=1↔pw p m t r i=1:=λi=>by
  have:=zcc (t:=t) hp hm s r i;rw[e,za7 hp hm]at this;constructor
  ·intro h;rw[h,one_mul hp hm (zaA hp hm _ _)]at this;exact this.symm
  ·intro h;rw[h,mul_one hp hm (zaA hp hm _ _)]at this;exact this.symm
 exact⟨o.pos,(key n).mpr o.one,λi h1 h2 h=>o.min i h1 h2 ((key i).mp h)⟩
theorem orth{r s n k j:Nat}(hr:r<p^m)(hs:s<p^m)(e:mul p m t s r=1)(o:Ord p m t r n)(hk:k<n)(hj:j<n):sumF p m n (λi=>mul p m t (pw p m t r (i*k)) (pw p m t s (i*j)))=if k=j then n%p else 0:=by
 have hp:=G.hp;have hm:=G.hm;have h1:=yax hp hm;have es:∀i,mul p m t (pw p m t s i) (pw p m t r i)=1:=λi=>by rw[<-zcc hp hm,e,za7 hp hm]
 have et:∀i,mul p m t (pw p m t r (i*k)) (pw p m t s (i*j))=pw p m t (mul p m t (pw p m t r k) (pw p m t s j)) i:=λi=>by
  rw[xAL i k,xAL i j,yaz hp hm,yaz hp hm,zcc hp hm]
 rw[yal hp hm n λi _=>et i];by_cases c:k=j
 ·subst c;rw[if_pos rfl,mul_comm hp hm (pw p m t r k),es];rw[yal hp hm n λi _=>za7 hp hm i];exact zgU hp hm n
 ·rw[if_neg c];refine geom G (zaw hp hm _ _) ?_ ?_
  ·have os:=o.inv G hr hs e;rw[zcc hp hm,<-yaz hp hm,<-yaz hp hm,xAL k n,xAL j n,yaz hp hm,yaz hp hm,o.one,os.one,za7 hp hm,za7 hp hm,mul_one hp hm h1]
  ·intro hz;have hkj:pw p m t r k=pw p m t r j:=by
    have:=congrArg (λz=>mul p m t z (pw p m t r j)) hz;rw[mul_assoc hp hm,es,mul_one hp hm (zaA hp hm _ _),one_mul hp hm (zaA hp hm _ _)]at this;exact this
   have inj:∀a b,a<b->b<n->pw p m t r a=pw p m t r b->False:=λa b hab hb h=>by
    refine o.min (b-a) () () ?_;have h2:=ya6 (t:=t) hp hm r a (b-a);rw[show a+(b-a)=b by omega,<-h]at h2;have h3:=congrArg (λz=>mul p m t (pw p m t s a) z) h2;rw[es,<-mul_assoc hp hm,es,one_mul hp hm (zaA hp hm _ _)]at h3;exact h3.symm
   rcases xAN k j with h|h
   ·exact inj k j h hj hkj
   ·exact inj j k () hk hkj.symm
noncomputable def dft(p m t r:Nat)(xs:List Nat):List Nat:=(List.range xs.length).map λi=>val p m t (pw p m t r i) xs
omit G in
theorem ya5(r:Nat)(xs:List Nat):(dft p m t r xs).length=xs.length:=by simp[dft]
theorem ydj(r:Nat)(xs:List Nat):∀x∈dft p m t r xs,x<p^m:=λx hx=>by
 obtain⟨k,_,rfl⟩:=xAe.mp hx;exact zbt G.hp G.hm _ _
omit G in
theorem rget{n:Nat}{f:Nat->Nat}{i:Nat}(h:i<n):((List.range n).map f).getD i 0=f i:=by
 rw[xAn,xA9,xB2 h];rfl
theorem zdJ{r i:Nat}{xs:List Nat}(hx:∀x∈xs,x<p^m)(hi:i<xs.length):(dft p m t r xs).getD i 0=sumF p m xs.length λk=>mul p m t (xs.getD k 0) (pw p m t r (i*k)):=by
 have hp:=G.hp;have hm:=G.hm;unfold dft;rw[rget hi,zaP hp hm (zaA hp hm _ _) _ hx];refine yal hp hm _ λk _=>?_
 rw[<-yaz hp hm]
omit G in
theorem ydX{c j:Nat}{xs:List Nat}(h:j<(zaB p m t c xs).length):(zaB p m t c xs)[j]=mul p m t c (xs.getD j 0):=by simp[zaB]
theorem ze7{r s n c:Nat}{xs:List Nat}(hr:r<p^m)(hs:s<p^m)(e:mul p m t s r=1)(o:Ord p m t r n)(hl:xs.length=n)(hx:∀x∈xs,x<p^m)(hc:mul p m t c (n%p)=1):zaB p m t c (dft p m t s (dft p m t r xs))=xs:=by
 have hp:=G.hp;have hm:=G.hm;have l2:(dft p m t s (dft p m t r xs)).length=xs.length:=by rw[ya5,ya5]
 refine xAS (by simp[zaB,ya5]) λj h1 h2=>?_
 rw[ydX];have hx0:=yaM hx h2;rw[zdJ G (ydj G r xs) (by rw[ya5];exact h2),ya5];have e1:(sumF p m xs.length λi=>mul p m t ((dft p m t r xs).getD i 0) (pw p m t s (j*i)))=mul p m t (xs.getD j 0) (n%p):=by
  have e2:(sumF p m xs.length λi=>mul p m t ((dft p m t r xs).getD i 0) (pw p m t s (j*i)))=sumF p m xs.length λi=>sumF p m xs.length λk=>mul p m t (mul p m t (pw p m t r (i*k)) (pw p m t s (i*j))) (xs.getD k 0):=by
   refine yal hp hm _ λi hi=>?_
   rw[zdJ G hx hi,<-yaY hp hm];refine yal hp hm _ λk _=>?_
   rw[mul_assoc hp hm,mul_comm hp hm,xAL j i]
  rw[e2,ye5 hp hm];have e3:(sumF p m xs.length λk=>sumF p m xs.length λi=>mul p m t (mul p m t (pw p m t r (i*k)) (pw p m t s (i*j))) (xs.getD k 0))=sumF p m xs.length λk=>if k=j then mul p m t (n%p) (xs.getD k 0) else 0:=by
   refine yal hp hm _ λk hk=>?_
   rw[yaY hp hm,hl,orth G hr hs e o () ()];split
   ·rfl
   ·exact zero_mul hp hm _
  rw[e3,zf3 hp hm (a:=j) (λk=>if k=j then mul p m t (n%p) (xs.getD k 0) else 0) (by rw[if_pos rfl];exact zaw hp hm _ _) (λi hi=>if_neg hi) _ h2,if_pos rfl,mul_comm hp hm]
 rw[e1,mul_left_comm hp hm,hc,mul_one hp hm hx0];simp[List.getD,h2]
theorem ygq{r c:Nat}{xs:List Nat}(hx:∀x∈xs,x<p^m):dft p m t r (zaB p m t c xs)=zaB p m t c (dft p m t r xs):=by
 have hp:=G.hp;have hm:=G.hm;have hl:(zaB p m t c xs).length=xs.length:=by simp[zaB]
 refine xAS (by simp[zaB,ya5]) λj h1 h2=>?_
 have hj:j<xs.length:=by rw[ya5,hl]at h1;exact h1
 have e1:(dft p m t r (zaB p m t c xs))[j]=(dft p m t r (zaB p m t c xs)).getD j 0:=by simp[List.getD,h1]
 rw[e1,zdJ G (ybQ G c xs) (),hl];rw[ydX,zdJ G hx hj,mul_comm hp hm c,<-yaY hp hm];refine yal hp hm _ λk hk=>?_
 rw[show(zaB p m t c xs).getD k 0=mul p m t c (xs.getD k 0) from rget hk,mul_comm hp hm c,mul_assoc hp hm,mul_assoc hp hm,mul_comm hp hm c]
theorem ygf{r s n c:Nat}{xs:List Nat}(hr:r<p^m)(hs:s<p^m)(e:mul p m t s r=1)(o:Ord p m t r n)(hl:xs.length=n)(hx:∀x∈xs,x<p^m)(hc:mul p m t c (n%p)=1):dft p m t r (zaB p m t c (dft p m t s xs))=xs:=by
 rw[ygq G (ydj G s xs)];exact ze7 G hs hr (by rw[mul_comm G.hp G.hm];exact e) (o.inv G hr hs e) hl hx hc
end
end My
end
section
-- text: PU
namespace My
open PySem L2 Dg
section
variable {p m t:Nat} (G:Good p m t)
include G
theorem yhT{x r:Nat}{row:List Nat}(hx:x<p^m)(hr:∀y∈row,y<p^m):add p m (val p m t x (mkS p m t r row)) (mul p m t r (val p m t x row))=mul p m t (val p m t x row) x:=by
 have hp:=G.hp;have hm:=G.hm;have h0:=yao hp hm;have hA:∀i,(0::row).getD i 0<p^m:=λi=>by
  cases i with
  |zero=>exact h0
  |succ i=>
   rw[List.getD_cons_succ];rcases xAN i row.length with h|h
   ·exact yaM hr h
   ·rw[yaB h];exact h0
 rw[zaP hp hm hx _ (zgi G),ycS,zaP hp hm hx row hr];have e1:(sumF p m (row.length+1) λk=>mul p m t ((mkS p m t r row).getD k 0) (pw p m t x k))=sumF p m (row.length+1) λk=>mul p m t (sub p m ((0::row).getD k 0) (mul p m t r ((row++[0]).getD k 0))) (pw p m t x k):=by
  refine yal hp hm _ λk hk=>?_
  rw[show(mkS p m t r row).getD k 0=_ from rget hk]
 have e2:mul p m t r (sumF p m row.length λk=>mul p m t (row.getD k 0) (pw p m t x k))=sumF p m (row.length+1) λk=>mul p m t (mul p m t r ((row++[0]).getD k 0)) (pw p m t x k):=by
  rw[yba hp hm _ row.length 1 λi h1 h2=>by
   have:i=row.length:=by omega
   subst this;have e:(row++[0]).getD row.length 0=0:=by simp[List.getD]
   rw[e,mul_zero hp hm,zero_mul hp hm],mul_comm hp hm,<-yaY hp hm]
  refine yal hp hm _ λk hk=>?_
  have e:(row++[0]).getD k 0=row.getD k 0:=by simp[List.getD,List.getElem?_append,hk]
  rw[e,mul_comm hp hm r,mul_assoc hp hm,mul_assoc hp hm,mul_comm hp hm r]
 have e3:mul p m t (sumF p m row.length λk=>mul p m t (row.getD k 0) (pw p m t x k)) x=sumF p m (row.length+1) λk=>mul p m t ((0::row).getD k 0) (pw p m t x k):=by
  rw[yb6 hp hm (f:=λk=>mul p m t ((0::row).getD k 0) (pw p m t x k)) (λi=>zaw hp hm _ _)];rw[show(0::row).getD 0 0=0 from rfl,zero_mul hp hm,zero_add hp hm (ycb hp hm _ _),<-yaY hp hm];refine yal hp hm _ λk _=>?_
  rw[List.getD_cons_succ,mul_assoc hp hm];rfl
 rw[e1,e2,e3,<-ycV hp hm];refine yal hp hm _ λk _=>?_
 rw[<-add_mul hp hm,zcn hp hm (hA k)]
theorem yeY{root x:Nat}(hx:x<p^m):∀(marks row:List Nat),(∀y∈row,y<p^m)->(val p m t x row=0\/∃k∈marks,x=pw p m t root k)->val p m t x (marks.foldl (λrow k=>mkS p m t (pw p m t root k) row) row)=0
 | [],row,_,h=>by
  rcases h with h |⟨k,hk,_⟩
  ·exact h
  ·cases hk
 |k::ms,row,hr,h=>by
  have hp:=G.hp;have hm:=G.hm;rw[List.foldl_cons];have key:=yhT G (r:=pw p m t root k) hx hr;refine yeY hx ms _ (zgi G) ?_;by_cases c:val p m t x row=0\/x=pw p m t root k
  ·left;refine zcm hp hm (c:=mul p m t (pw p m t root k) (val p m t x row)) (zbt hp hm _ _) (yao hp hm) ?_;rw[key,zero_add hp hm (zaw hp hm _ _)];rcases c with c|c
   ·rw[c,zero_mul hp hm,mul_zero hp hm]
   ·rw[<-c,mul_comm hp hm]
  ·right;rcases h with h |⟨k',hk',e⟩
   ·exact absurd (.inl h) c
   ·rcases xAa.mp hk' with h1|h1
    ·exact absurd (.inr (h1 ▸ e)) c
    ·exact⟨k',h1,e⟩
theorem zg4{root k:Nat}{marks:List Nat}(h:k∈marks):val p m t (pw p m t root k) (mkL p m t root marks)=0 :=
 yeY G (zaA G.hp G.hm _ _) marks [1] (λy hy=>by rw[xAJ.mp hy];exact yax G.hp G.hm) (.inr ⟨k,h,rfl⟩)
end
end My
end
section
-- text: PV
namespace My
open PySem L2 Dg
theorem ydq:∀ {l l':List Nat},l.Nodup->(∀x∈l,x∈l')->l.length<=l'.length
 | [],_,_,_=>xB1 _
 |x::l,l',hd,h=>by
  have hd':=xBk.mp hd;have hx:=h x xAf;have:=ydq (l:=l) (l':=l'.erase x) hd'.2 λy hy=>(List.mem_erase_of_ne (λe=>hd'.1 (by rw[<-e];exact hy))).mpr (h y (xAd _ hy))
  rw[List.length_erase_of_mem hx]at this;have:=List.length_pos_of_mem hx;rw[xB8];omega
theorem zc7(q k:Nat):q-1 ∣ q^k-1:=by
 induction k with
 |zero=>simp
 |succ k ih=>
  obtain⟨c,hc⟩:=ih;rcases xAO q with h|h
  ·subst h;simp
  ·have hk:1<=q^k:=xB7 h;refine⟨q^k+c,?_⟩;have e:q^k=(q-1)*c+1:=by omega
   rw[xAD,Nat.mul_add,<-hc,xAL (q-1),Nat.mul_sub,Nat.mul_one];have:=Nat.mul_le_mul_left (q^k) h;omega
section
variable {p m t:Nat} (G:Good p m t)
include G
theorem zhY{few:Nat}(hf:m%few=0)(hf1:1<=few):(lets p m t few).length<=p^few:=by
 have hp:=G.hp;have hm:=G.hm;obtain⟨b,Pb⟩:=G.prim;have hq2:2<=p^few:=xAM hp (Nat.le_self_pow () p);obtain⟨kk,hkk⟩:p^few-1 ∣ p^m-1:=by
  have:=zc7 (p^few) (m/few);rw[<-Nat.pow_mul,Nat.mul_div_cancel' (xAV hf)]at this;exact this
 have h1:=yax hp hm;have hnd:(lets p m t few).Nodup:=List.Pairwise.filter _ (List.pairwise_lt_range.imp λh=>by omega);have hs:=ydq (l':=0::(List.range (p^few-1)).map λj=>pw p m t b (kk*j)) hnd λx hx=>by
  obtain⟨hxr,hxe⟩:=xBx.mp hx;have hxr:=xAu.mp hxr;have hxe:pw p m t x (p^few)=x:=xAh hxe;rcases xAO x with h0|h0
  ·rw[h0];exact xAf
  ·refine xAd _ ?_;obtain⟨i,hi,rfl⟩:=Pb.all x h0 hxr;rw[<-yaz hp hm]at hxe;have e1:(i*p^few)%(p^m-1)=i:=by
    refine G.inj Pb _ _ (xAC _ ()) hi ?_;rw[G.pw_mod Pb.pos Pb.lt];exact hxe
   have d1:p^m-1 ∣ i*(p^few-1):=by
    have e2:=Nat.div_add_mod (i*p^few) (p^m-1);rw[e1]at e2;refine⟨i*p^few/(p^m-1),?_⟩;rw[Nat.mul_sub,Nat.mul_one];omega
   rw[hkk,xAL i]at d1;have d2:=Nat.dvd_of_mul_dvd_mul_left () d1;obtain⟨j,rfl⟩:=d2;refine xAe.mpr ⟨j,xAu.mpr ?_,rfl⟩;rw[hkk,xAL (p^few-1)]at hi;exact Nat.lt_of_mul_lt_mul_left hi
 rw[xB8,xA1,xAt]at hs;omega
theorem zes{r n a b:Nat}(r0:0<r)(hr:r<p^m)(o:Ord p m t r n)(ha:a<n)(hb:b<n)(h:pw p m t r a=pw p m t r b):a=b:=by
 have hp:=G.hp;have hm:=G.hm;have es:∀i,mul p m t (pw p m t (pw p m t r (p^m-2)) i) (pw p m t r i)=1:=λi=>by rw[<-zcc hp hm,G.inv r0 hr,za7 hp hm]
 have inj:∀a b,a<b->b<n->pw p m t r a=pw p m t r b->False:=λa b hab hb h=>by
  refine o.min (b-a) () () ?_;have h2:=ya6 (t:=t) hp hm r a (b-a);rw[show a+(b-a)=b by omega,<-h]at h2;have h3:=congrArg (λz=>mul p m t (pw p m t (pw p m t r (p^m-2)) a) z) h2;rw[es,<-mul_assoc hp hm,es,one_mul hp hm (zaA hp hm _ _)]at h3;exact h3.symm
 rcases Nat.lt_trichotomy a b with h1|h1|h1
 ·exact(inj a b h1 hb h).elim
 ·exact h1
 ·exact(inj b a h1 ha h.symm).elim
end
noncomputable def addL(p m:Nat)(xs ys:List Nat):List Nat:=(List.range (min xs.length ys.length)).map λi=>add p m (xs.getD i 0) (ys.getD i 0)
theorem ydL{p m n:Nat}{xs ys:List Nat}(h1:xs.length=n)(h2:ys.length=n):(addL p m xs ys).length=n:=by simp[addL,h1,h2]
section
variable {p m t:Nat} (G:Good p m t)
include G
theorem yem(xs ys:List Nat):∀x∈addL p m xs ys,x<p^m:=λx hx=>by
 obtain⟨i,_,rfl⟩:=xAe.mp hx;exact zbg G.hp G.hm _ _
theorem ze5{x n:Nat}{xs ys:List Nat}(hx:x<p^m)(l1:xs.length=n)(l2:ys.length=n)(h1:∀a∈xs,a<p^m)(h2:∀a∈ys,a<p^m):val p m t x (addL p m xs ys)=add p m (val p m t x xs) (val p m t x ys):=by
 have hp:=G.hp;have hm:=G.hm;rw[zaP hp hm hx _ (yem G xs ys),zaP hp hm hx _ h1,zaP hp hm hx _ h2,ydL l1 l2,l1,l2,<-ycV hp hm];refine yal hp hm _ λi hi=>?_
 have e:(addL p m xs ys).getD i 0=add p m (xs.getD i 0) (ys.getD i 0):=rget (by rw[l1,l2,Nat.min_self];exact hi);rw[e,add_mul hp hm]
theorem yd1{x c:Nat}{xs:List Nat}(hx:x<p^m)(h1:∀a∈xs,a<p^m):val p m t x (zaB p m t c xs)=mul p m t c (val p m t x xs):=by
 have hp:=G.hp;have hm:=G.hm;have hl:(zaB p m t c xs).length=xs.length:=by simp[zaB]
 rw[zaP hp hm hx _ (ybQ G c xs),zaP hp hm hx _ h1,hl,mul_comm hp hm c,<-yaY hp hm];refine yal hp hm _ λk hk=>?_
 rw[show(zaB p m t c xs).getD k 0=mul p m t c (xs.getD k 0) from rget hk,mul_comm hp hm c,mul_assoc hp hm,mul_assoc hp hm,mul_comm hp hm c]
end
end My
end
section
-- text: PZ
namespace My
open PySem L2 Dg
noncomputable def dvF(p m t:Nat)(ds rest:List Nat)(a:Nat):Nat:=mul p m t (rest.getD (a+ds.length-1) 0) (pw p m t (ds.getD (ds.length-1) 0) (p^m-2))
noncomputable def dvJ(p m t:Nat)(ds rest:List Nat)(a c j:Nat):List Nat:=(List.range rest.length).map λi=>if a<=i/\i<a+j then sub p m (rest.getD i 0) (mul p m t c (ds.getD (i-a) 0)) else rest.getD i 0
noncomputable def dvS(p m t:Nat)(ds rest:List Nat)(a:Nat):List Nat:=dvJ p m t ds rest a (dvF p m t ds rest a) ds.length
noncomputable def dvI(p m t:Nat)(ds one:List Nat)(N:Nat):Nat->List Nat
 |0=>one
 |i+1=>dvS p m t ds (dvI p m t ds one N i) (N-1-i)
noncomputable def dvQ(p m t:Nat)(ds one:List Nat)(N i:Nat):List Nat:=(List.range N).map λk=>if N<=k+i then dvF p m t ds (dvI p m t ds one N (N-1-k)) k else 0
theorem ycM(p m t:Nat)(ds rest:List Nat)(a c j:Nat):(dvJ p m t ds rest a c j).length=rest.length:=by simp[dvJ]
theorem ycp(p m t:Nat)(ds one:List Nat)(N:Nat):∀i,(dvI p m t ds one N i).length=one.length
 |0=>rfl
 |i+1=>by unfold dvI dvS;rw[ycM,ycp p m t ds one N i]
theorem yeF{p m t:Nat}{ds rest:List Nat}{a c j i:Nat}(hi:i<rest.length):(dvJ p m t ds rest a c j).getD i 0=if a<=i/\i<a+j then sub p m (rest.getD i 0) (mul p m t c (ds.getD (i-a) 0)) else rest.getD i 0:=by
 unfold dvJ;rw[zd4,if_pos hi]
theorem yfh(l:List Nat):((List.range l.length).map λi=>l.getD i 0)=l:=by
 refine xAS (by simp) λi h1 h2=>?_
 simp[List.getD,h2]
theorem ygP(p m t:Nat)(ds rest:List Nat)(a c:Nat):dvJ p m t ds rest a c 0=rest:=by
 unfold dvJ
 conv=>rhs;rw[<-yfh rest]
 refine xAE λi _=>?_
 rw[if_neg ()]
theorem zhW{p m t:Nat}{ds rest:List Nat}{a c j:Nat}:(dvJ p m t ds rest a c j).set (a+j) (sub p m (rest.getD (a+j) 0) (mul p m t c (ds.getD j 0)))=dvJ p m t ds rest a c (j+1):=by
 refine xAS (by simp[dvJ]) λi h1 h2=>?_
 rw[List.getElem_set];simp only[dvJ,List.getElem_map,List.getElem_range];by_cases e:a+j=i
 ·subst e;rw[if_pos rfl,if_pos (),Nat.add_sub_cancel_left]
 ·rw[if_neg e];by_cases c1:a<=i/\i<a+j
  ·rw[if_pos c1,if_pos ()]
  ·rw[if_neg c1,if_neg ()]
theorem ygC(p m t:Nat)(ds one:List Nat)(N:Nat):dvQ p m t ds one N 0=List.replicate N 0:=by
 refine xAS (by simp[dvQ]) λi h1 h2=>?_
 simp only[dvQ,List.getElem_map,List.getElem_range,List.getElem_replicate];rw[if_neg (by simp[dvQ]at h1;omega)]
theorem zhy{p m t:Nat}{ds one:List Nat}{N i:Nat}(hi:i<N):(dvQ p m t ds one N i).set (N-1-i) (dvF p m t ds (dvI p m t ds one N i) (N-1-i))=dvQ p m t ds one N (i+1):=by
 refine xAS (by simp[dvQ]) λk h1 h2=>?_
 rw[List.getElem_set];simp only[dvQ,List.getElem_map,List.getElem_range];by_cases e:N-1-i=k
 ·subst e;rw[if_pos rfl,if_pos (),show N-1-(N-1-i)=i by omega]
 ·rw[if_neg e];by_cases c:N<=k+i
  ·rw[if_pos c,if_pos ()]
  ·rw[if_neg c,if_neg ()]
theorem zet(p m t:Nat)(ds one:List Nat)(N i:Nat):(dvQ p m t ds one N i).length=N:=by simp[dvQ]
theorem yga{xs:List Nat}(h:trim xs=xs)(h0:0<xs.length):xs.getD (xs.length-1) 0≠0:=by
 intro c;have e:xs=xs.take (xs.length-1)++[0]:=by
  have:=zbR (l:=xs) (e:=xs.length-1) ();rw[show xs.length-1+1=xs.length by omega,xAX,c]at this;exact this
 have e2:trim xs=trim (xs.take (xs.length-1)):=by conv=>lhs;rw[e,yca]
 have:=yer (xs.take (xs.length-1));rw[<-e2,h,xAH]at this;omega
theorem zeu{l:List Nat}{n:Nat}(h:∀k,n<=k->l.getD k 0=0):(trim l).length<=n:=by
 rcases xAN n (trim l).length with c|c
 ·have h1:=yga (yeg l) ();rw[yed]at h1;exact absurd (h _ ()) h1
 ·exact c
section
variable {p m t:Nat} (G:Good p m t)
include G
theorem ybH{xs:List Nat}(h:∀x∈xs,x<p^m)(i:Nat):xs.getD i 0<p^m:=by
 by_cases c:i<xs.length
 ·exact yaM h c
 ·rw[yaB ()];exact yao G.hp G.hm
theorem yie(ds rest:List Nat)(a:Nat):dvF p m t ds rest a<p^m:=zaw G.hp G.hm _ _
theorem yha{ds rest:List Nat}{a c j:Nat}(h:∀x∈rest,x<p^m):∀x∈dvJ p m t ds rest a c j,x<p^m:=λx hx=>by
 obtain⟨i,_,rfl⟩:=xAe.mp hx;split
 ·exact zbX G.hp G.hm _ _
 ·exact ybH G h i
theorem zcv{ds one:List Nat}{N:Nat}(h:∀x∈one,x<p^m):∀i,∀x∈dvI p m t ds one N i,x<p^m
 |0=>h
 |i+1=>yha G (zcv h i)
theorem zcf{x:Nat}(hx:x<p^m):sub p m x x=0:=by
 have:=zc2 G.hp G.hm (y:=x) (yao G.hp G.hm (p:=p) (m:=m));rw[zero_add G.hp G.hm hx]at this;exact this
theorem ye0{ds one:List Nat}{N:Nat}(hN:N=one.length+1-ds.length)(hd:0<ds.length)(hl:0<ds.getD (ds.length-1) 0)(h:∀x∈one,x<p^m)(hds:∀x∈ds,x<p^m):∀i,i<=N->∀k,one.length<=k+i->(dvI p m t ds one N i).getD k 0=0
 |0,_,k,hk=>yaB (by unfold dvI;omega)
 |i+1,hi,k,hk=>by
  have hp:=G.hp;have hm:=G.hm;show(dvJ p m t ds (dvI p m t ds one N i) (N-1-i) (dvF p m t ds (dvI p m t ds one N i) (N-1-i)) ds.length).getD k 0=0;by_cases c:k<one.length
  ·rw[yeF (by rw[ycp];exact c)];by_cases c2:one.length<=k+i
   ·rw[if_neg ()];exact ye0 hN hd hl h hds i () k c2
   ·have ek:k=N-1-i+ds.length-1:=by omega
    rw[if_pos (),show k-(N-1-i)=ds.length-1 by omega];unfold dvF;rw[<-ek,mul_assoc hp hm,G.inv hl (ybH G hds _),mul_one hp hm (ybH G (zcv G h i) k)];exact zcf G (ybH G (zcv G h i) k)
  ·exact yaB (by rw[ycM,ycp];omega)
theorem zgG{ds one:List Nat}(hd:0<ds.length)(hl:0<ds.getD (ds.length-1) 0)(h:∀x∈one,x<p^m)(hds:∀x∈ds,x<p^m):(trim (dvI p m t ds one (one.length+1-ds.length) (one.length+1-ds.length))).length<=ds.length-1:=by
 refine zeu λk hk=>?_
 by_cases c:ds.length<=one.length
 ·exact ye0 G rfl hd hl h hds _ (xA4 _) k ()
 ·rw[show one.length+1-ds.length=0 by omega];exact yaB (by unfold dvI;omega)
theorem zhL{x y r:Nat}(hx:x<p^m)(hr:r<p^m):add p m x (mul p m t y (sub p m 0 r))=sub p m x (mul p m t r y):=by
 have hp:=G.hp;have hm:=G.hm;have e1:sub p m 0 r=mul p m t (p-1) r:=by rw[<-ye1 (t:=t) hp hm (yao hp hm) hr,zero_add hp hm (zaw hp hm _ _)]
 have e2:mul p m t y (mul p m t (p-1) r)=mul p m t (p-1) (mul p m t r y):=by
  rw[mul_comm hp hm y,mul_assoc hp hm]
 rw[e1,e2,ye1 hp hm hx (zaw hp hm _ _)]
theorem zgL{row:List Nat}{b:Nat}(hr:∀x∈row,x<p^m):∀n,conv p m t row [b,1] n=add p m ((0::row).getD n 0) (mul p m t (row.getD n 0) b)
 |0=>rfl
 |n+1=>by
  have hp:=G.hp;have hm:=G.hm;have h0:sumF p m n (λi=>mul p m t (row.getD i 0) (([b,1]:List Nat).getD (n+1-i) 0))=0:=by
   have:sumF p m n (λi=>mul p m t (row.getD i 0) (([b,1]:List Nat).getD (n+1-i) 0))=sumF p m n λ_=>0:=by
    refine yal hp hm _ λi hi=>?_
    rw[yaB (show([b,1]:List Nat).length<=n+1-i by simp;omega),mul_zero hp hm]
   rw[this];have:=yba hp hm (λ_=>0) 0 n (λ_ _ _=>rfl);rw[xBu]at this;exact this
  show add p m (add p m (sumF p m n λi=>mul p m t (row.getD i 0) (([b,1]:List Nat).getD (n+1-i) 0)) (mul p m t (row.getD n 0) (([b,1]:List Nat).getD (n+1-n) 0))) (mul p m t (row.getD (n+1) 0) (([b,1]:List Nat).getD (n+1-(n+1)) 0))=_;rw[h0,show n+1-n=1 by omega,Nat.sub_self];show add p m (add p m 0 (mul p m t (row.getD n 0) 1)) (mul p m t (row.getD (n+1) 0) b)=add p m (row.getD n 0) _;rw[mul_one hp hm (ybH G hr n),zero_add hp hm (ybH G hr n)]
omit G in
theorem zcC(row:List Nat)(i:Nat):(row++[0]).getD i 0=row.getD i 0:=by
 by_cases c:i<row.length
 ·rw[xAn,List.getElem?_append_left c,<-xAn]
 ·rw[yaB (xs:=row) (),xAn,List.getElem?_append_right ()];cases i-row.length with
  |zero=>rfl
  |succ k=>rfl
theorem ygO{row:List Nat}{r:Nat}(hr:∀x∈row,x<p^m)(hrq:r<p^m)(h0:0<row.length)(hl:row.getD (row.length-1) 0=1):rmul p m t row [sub p m 0 r,1]=mkS p m t r row:=by
 have hp:=G.hp;have hm:=G.hm;have hz:∀n,(0::row).getD n 0<p^m:=λn=>ybH G (λx hx=>by
  rcases xAa.mp hx with rfl|h
  ·exact yao hp hm
  ·exact hr x h) n
 have e:∀n,conv p m t row [sub p m 0 r,1] n=sub p m ((0::row).getD n 0) (mul p m t r ((row++[0]).getD n 0)):=λn=>by
  rw[zgL G hr,zhL G (hz n) hrq,zcC]
 unfold rmul mkS;rw[show(row.length+([sub p m 0 r,1]:List Nat).length)=row.length+1+1 from rfl,xBa,xA8];have ez:conv p m t row [sub p m 0 r,1] (row.length+1)=0:=by
  rw[e,zcC,yaB (xs:=row) (i:=row.length+1) (),yaB (xs:=0::row) (by simp),mul_zero hp hm];exact zcf G (yao hp hm)
 rw[List.map_singleton,ez,yca,xBa,xA8,List.map_singleton,xA8,List.map_singleton];have el:conv p m t row [sub p m 0 r,1] row.length=1:=by
  rw[e,zcC,yaB (xs:=row) (i:=row.length) (xA4 _),mul_zero hp hm];obtain⟨k,hk⟩:∃k,row.length=k+1:=⟨row.length-1,()⟩
  rw[hk];show sub p m (row.getD k 0) 0=1;rw[hk]at hl;rw[show k+1-1=k from rfl]at hl;rw[hl];have:=zc2 hp hm (x:=1) (y:=0) (yax hp hm);rw[add_zero hp hm (yax hp hm)]at this;exact this
 rw[el,zcX #[],<-e,el];refine congrArg (·++[1]) (xAE λn _=>e n)
theorem ygL{row:List Nat}{r:Nat}(h0:0<row.length)(hl:row.getD (row.length-1) 0=1):(mkS p m t r row).getD row.length 0=1:=by
 have hp:=G.hp;have hm:=G.hm;unfold mkS;rw[zd4,if_pos (),zcC,yaB (xs:=row) (i:=row.length) (xA4 _),mul_zero hp hm];obtain⟨k,hk⟩:∃k,row.length=k+1:=⟨row.length-1,()⟩
 rw[hk];show sub p m (row.getD k 0) 0=1;rw[hk]at hl;rw[show k+1-1=k from rfl]at hl;rw[hl];have:=zc2 hp hm (x:=1) (y:=0) (yax hp hm);rw[add_zero hp hm (yax hp hm)]at this;exact this
theorem yfc(root:Nat):∀(marks row:List Nat),0<row.length->row.getD (row.length-1) 0=1->(marks.foldl (λrow k=>mkS p m t (pw p m t root k) row) row).getD (row.length+marks.length-1) 0=1
 | [],row,_,h=>h
 |k::marks,row,h0,h=>by
  have:=yfc root marks (mkS p m t (pw p m t root k) row) (by rw[ycS];omega) (by rw[ycS];exact ygL G h0 h);rw[ycS]at this;rw[List.foldl_cons,show row.length+(k::marks).length-1=row.length+1+marks.length-1 by rw[xB8];omega];exact this
theorem zdI(root:Nat)(marks:List Nat):(mkL p m t root marks).getD marks.length 0=1:=by
 have:=yfc G root marks [1] #[] rfl;rw[show([1]:List Nat).length+marks.length-1=marks.length by simp]at this;exact this
end
noncomputable def mdR(p m t root:Nat)(marks gs:List Nat):List Nat:=trim (List.replicate marks.length 0++gs)
noncomputable def mdN(p m t root:Nat)(marks gs:List Nat):Nat:=(mdR p m t root marks gs).length+1-(mkL p m t root marks).length
noncomputable def mdL(p m t root:Nat)(marks gs:List Nat):List Nat:=((wid (trim (dvI p m t (mkL p m t root marks) (mdR p m t root marks gs) (mdN p m t root marks gs) (mdN p m t root marks gs))) marks.length).map (sub p m 0))++gs
theorem ze2{p m t root:Nat}{marks gs:List Nat}(G:Good p m t)(h:∀x∈gs,x<p^m):∀x∈mdR p m t root marks gs,x<p^m:=λx hx=>by
 rcases xAB.mp (ycz _ _ hx) with c|c
 ·rw[xBe c];exact yao G.hp G.hm
 ·exact h x c
theorem ycA{p m t root:Nat}{marks gs:List Nat}(G:Good p m t)(h:∀x∈gs,x<p^m):(trim (dvI p m t (mkL p m t root marks) (mdR p m t root marks gs) (mdN p m t root marks gs) (mdN p m t root marks gs))).length<=marks.length:=by
 have:=zgG G (ds:=mkL p m t root marks) (one:=mdR p m t root marks gs) (by rw[zb1];omega) (by rw[zb1,Nat.add_sub_cancel,zdI G];exact Nat.one_pos) (ze2 G h) (zdd G marks);rw[zb1,Nat.add_sub_cancel]at this;unfold mdN;rw[zb1];exact this
theorem zcr{p m t root:Nat}{marks gs:List Nat}(G:Good p m t)(h:∀x∈gs,x<p^m):(mdL p m t root marks gs).length=marks.length+gs.length:=by
 unfold mdL;rw[xAx,xA1,ydy (ycA G h)]
theorem zdX{p m t root:Nat}{marks gs:List Nat}(G:Good p m t)(h:∀x∈gs,x<p^m):∀x∈mdL p m t root marks gs,x<p^m:=λx hx=>by
 rcases xAB.mp hx with c|c
 ·obtain⟨y,_,rfl⟩:=xAe.mp c;exact zbX G.hp G.hm _ _
 ·exact h x c
theorem zgR{xs:List V}{v:V}(h:xs[xs.length-1]?=some v):atI xs (-1)=some v:=by
 have hl:0<xs.length:=by
  have:=(xAo.mp h).1;omega
 unfold atI ixN;rw[if_neg #[],if_pos ()];show(some _).bind _=_;rw[Option.bind_some,<-h];congr 1;omega
section
variable {P:Program} {w:World} {K:PySem.W.Frag} {mg:Str->Option Value} {base:Heap} {f:Addr} {fd:FuncData}
noncomputable def ydC(K:PySem.W.Frag):Sp:=λvs H Q E=>zdr K vs H Q E\/∃(a:Addr) (ns:List Nat),vs=[.ref a]/\SqT K H a (ns.map Vn)/\ns.length<=1000/\∀r H',Same H H'->SqT K H' r ((trim ns).map Vn)->Q (.ref r) H'
theorem zh6{k:Nat}{x:Str}{ps:List Str}(h:Has P w K mg base k x ps (ydC K)):Has P w K mg base k x ps (zdr K):=by
 obtain⟨f,fd,F,B,kp,m⟩:=h;exact⟨f,fd,F.imp λvs H Q E h=>.inl h,B,kp,m⟩
theorem zg0(B:Bl mg)(F:Fun K "trimmed" "trimmed" zcT f fd):FnOk P w K mg base CX0 1 f fd ["things"] (ydC K):=by
 refine F.ok zcg (λvs H Q E h=>?_) (λcdv A outer s H vs Q E hr h=>?_)
 ·rcases h with⟨a,ns,rfl,_⟩ |⟨a,ns,rfl,_⟩ <;> rfl
 obtain⟨a,ns,rfl,hs,hl,q⟩:∃(a:Addr) (ns:List Nat),vs=[.ref a]/\(SqL K H a (ns.map Vn)\/SqT K H a (ns.map Vn))/\ns.length<=1000/\((SqL K H a (ns.map Vn)/\∀r H',Same H H'->H r=none->H' r=some (.tup ((trim ns).map Vn))->Q (.ref r) H')\/(SqT K H a (ns.map Vn)/\∀r H',Same H H'->SqT K H' r ((trim ns).map Vn)->Q (.ref r) H')):=by
  rcases h with⟨a,ns,e,ha,hl,q⟩ |⟨a,ns,e,ha,hl,q⟩
  ·exact⟨a,ns,e,.inl ha,hl,.inl ⟨ha,q⟩⟩
  ·exact⟨a,ns,e,.inr ha,hl,.inr ⟨ha,q⟩⟩
 refine⟨_,(@yaa _ _ _ _ _ (@yaf _ _ 1 _ _ _ _ zcg.nd rfl (Or.inl rfl) (@zam _ _ _ _ _ _ _ _ _ zak rfl (B "len" #[]) xAR (@zaa _ _ _ _ _ (pv 0) zab ⋯) #[] #[] ⋯ ⋯) ⋯ (by trivial)) (@yaa _ _ _ _ _ (@zaO _ _ _ _ _ _ xAi (@PW.pt _ _ _ (@yeZ _ _ _ _ _ _ _ (@zai _ _ _ _ _ _ _ _ yb3 (pv 1) yac (yaj _)) (@zds _ _ _ _ (@zai _ _ _ _ _ _ _ _ za4 (@zao _ _ _ _ _ _ _ yhv (pv 0) (@zag _ _ _ _ _ _ _ _ yaW (pv 1) yac) (λ_ _=>rfl)) yac (yaj _))))) (@yad _ _ _ (@zbF _ _ 1 _ _ _ _ _ _ zcg.nd rfl (Or.inl rfl) yac yhX (by trivial)))) (@yad _ _ _ (@yai _ _ _ _ (@yaq _ _ _ _ _ _ _ _ _ yap rfl (B "tuple" #[]) zap (@zaa _ _ _ _ _ (@zbT _ _ _ _ _ _ _ _ _ _ yhq (pv 0) zch (@zck _ _ _ (pv 1))) zab ⋯) #[] #[] ⋯ ⋯))))),?_⟩;refine⟨_,rfl,a,_,rfl,hs,?_⟩;refine yaO (λσ H'=>H'=H/\∃e:Nat,e<=ns.length/\trim ns=trim (ns.take e)/\σ=[some (.ref a),some (Vn e)]) (λσ _=>mI σ 1) ⟨rfl,ns.length,xA4 _,by rw[xAX],by rw[xA1];rfl⟩ ?_;rintro σ H' ⟨rfl,e,he,ht,rfl⟩;refine zhD (b1:=decide ((0:Int)<(e:Int))) (b2:=decide (ns.getD (e-1) 0=0)) (λQ q=>⟨_,rfl,_,_,rfl,rfl,_,rfl,q⟩) (λc Q q=>?_) ?_
 ·have c':0<e:=by have:=xAh c;omega
  have eat:atI (ns.map Vn) ((e:Int)-1)=some (Vn (ns.getD (e-1) 0)):=by
   rw[show(e:Int)-1=((e-1:Nat):Int) by omega];exact yaZ (yay ())
  rcases hs with ha|ha
  ·exact⟨_,rfl,_,rfl,_,_,rfl,rfl,.inl ⟨a,_,_,Vn (ns.getD (e-1) 0),rfl,rfl,ha,eat,rfl,_,rfl,by rw[yby];exact q⟩⟩
  ·exact⟨_,rfl,_,rfl,_,_,rfl,rfl,.inr ⟨a,_,_,Vn (ns.getD (e-1) 0),rfl,rfl,ha,eat,rfl,_,rfl,by rw[yby];exact q⟩⟩
 refine ite2 (λc=>?_) (λc=>?_)
 ·simp only[xAv,xBv]at c;have hsplit:ns.take e=ns.take (e-1)++[0]:=by
   have:=zbR (l:=ns) (e:=e-1) ();rw[show e-1+1=e by omega,c.2]at this;exact this
  refine⟨λσ' H''=>H''=H'/\σ'=[some (.ref a),some (Vn (e-1))],?_,?_⟩
  ·rintro σ' H'' ⟨rfl,rfl⟩;refine⟨_,?_,rfl,rfl,e-1,(),by rw[ht,hsplit,yca],rfl⟩;show e-1<e;omega
  ·refine⟨_,rfl,_,_,rfl,rfl,rfl,?_⟩;show [some (V.ref a),some (V.int ((e:Int)-1))]=_;rw[show(e:Int)-1=((e-1:Nat):Int) by omega]
 ·have hfin:trim ns=ns.take e:=by
   rw[ht];rcases xAO e with h0|h0
   ·rw[h0];rfl
   ·have hz:ns.getD (e-1) 0≠0:=by
     intro h;exact c (by simp only[xAv,xBv];exact⟨(),h⟩)
    have:=zbR (l:=ns) (e:=e-1) ();rw[show e-1+1=e by omega]at this;rw[this,zcX hz]
  have ecut:cutV (ns.map Vn) none (some (e:Int))=(trim ns).map Vn:=by rw[zgD _ _ (by rw[xA1];exact he),<-List.map_take,<-hfin]
  rcases q with⟨ha,q⟩ |⟨ha,q⟩
  ·refine⟨_,rfl,_,rfl,_,rfl,.inl ⟨a,_,rfl,ha,λl hl=>?_⟩⟩;rw[ecut];refine⟨l,_,rfl,.inl ⟨SqL.of yab,λr hr=>?_⟩⟩;exact q r _ ((zac hl _).trans (zac hr _)) ((zac hl _).free hr) yab
  ·refine⟨_,rfl,_,rfl,_,rfl,.inr ⟨a,_,rfl,ha,λe=>?_,λl hl=>?_⟩⟩
   ·rw[ecut]at e;exact⟨a,_,rfl,.inr ⟨ha,q a _ (Same.refl _) (by rw[e];exact ha)⟩⟩
   ·rw[ecut];exact⟨l,_,rfl,.inr ⟨SqT.of yab,q l _ (zac hl _) (SqT.of yab)⟩⟩
noncomputable def zg9(K:PySem.W.Frag):Sp:=λvs H Q _=>∃(fa ps:Addr) (p m t root:Nat) (ms:List Nat),vs=[.ref fa,Vn root,.ref ps]/\Fld K H fa p m t/\Good p m t/\0<root/\root<p^m/\(SqL K H ps (ms.map Vn)\/SqT K H ps (ms.map Vn))/\ms.length<=64/\∀r H',Same H H'->SqT K H' r ((mkL p m t root ms).map Vn)->Q (.ref r) H'
theorem zaT:yah ["field","root","powers","row","i"] ["field","root","powers"] (zae zbo):=⟨rfl,rfl,rfl,∅,rfl,∅,∅⟩
theorem zh4(B:Bl mg)(xCb:Has P w K mg base 4 "row_times" ["field","one","other"] (zdU K))(xC1:Has P w K mg base 2 "minus" ["field","one","other"] (ycD K))(xC6:Has P w K mg base 5 "power" ["field","one","many"] (ycE K))(F:Fun K "row_of_roots" "row_of_roots" zbo f fd):FnOk P w K mg base CX0 6 f fd ["field","root","powers"] (zg9 K):=by
 refine F.ok zaT (λvs H Q E h=>?_) (λcdv A outer s H vs Q E hr h=>?_)
 ·obtain⟨fa,ps,p,m,t,root,ms,rfl,_⟩:=h;rfl
 obtain⟨fa,ps,p,m,t,root,ms,rfl,hF,G,h0,hq,hs,hl,q⟩:=h;have hp:=G.hp;have hm:=G.hm;refine⟨_,(@yaa _ _ _ _ _ (@yaf _ _ 3 _ _ _ _ zaT.nd rfl (Or.inl rfl) (@zaV _ _ _ _ _ (@zaa _ _ _ _ _ yac zab ⋯)) ⋯ (by trivial)) (@yaa _ _ _ _ _ (@zaF _ _ _ _ _ _ _ _ xAi rfl (@yhF _ _ _ _ (pv 2)) (@yae _ _ 4 _ zaT.nd rfl (Or.inl rfl) (by trivial)) (@yad _ _ _ (@yaf _ _ 3 _ _ _ _ zaT.nd rfl (Or.inl rfl) (@zad _ _ _ _ _ _ _ _ _ _ _ xCb hr #[] rfl (@zaa _ _ _ _ _ (pv 0) (@zaa _ _ _ _ _ (pv 3) (@zaa _ _ _ _ _ (@zaV _ _ _ _ _ (@zaa _ _ _ _ _ (@zad _ _ _ _ _ _ _ _ _ _ _ xC1 hr #[] rfl (@zaa _ _ _ _ _ (pv 0) (@zaa _ _ _ _ _ yac (@zaa _ _ _ _ _ (@zad _ _ _ _ _ _ _ _ _ _ _ xC6 hr #[] rfl (@zaa _ _ _ _ _ (pv 0) (@zaa _ _ _ _ _ (pv 1) (@zaa _ _ _ _ _ (pv 4) zab ⋯) ⋯) ⋯) #[] ⋯ ⋯) zab ⋯) ⋯) ⋯) #[] ⋯ ⋯) (@zaa _ _ _ _ _ yac zab ⋯) ⋯)) zab ⋯) ⋯) ⋯) #[] ⋯ ⋯) ⋯ (by trivial))) (by intro _;rfl)) (@yad _ _ _ (@yai _ _ _ _ (pv 3))))),?_⟩;refine⟨szl 1,λr0 hr0=>?_⟩;have s0:=zac hr0 (.tup [V.int 1]);have hml:∀i,i<ms.length->(mkL p m t root (ms.take i)).length=i+1:=λi hi=>by rw[zb1,xAH];omega
 have htwo:∀i,∀y∈[sub p m 0 (pw p m t root (ms.getD i 0)),1],y<p^m:=λi y hy=>by
  rcases xAa.mp hy with rfl|h
  ·exact zbX hp hm _ _
  ·rw[xAJ.mp h];exact yax hp hm
 have hnext:∀i,i<ms.length->rmul p m t (mkL p m t root (ms.take i)) [sub p m 0 (pw p m t root (ms.getD i 0)),1]=mkL p m t root (ms.take (i+1)):=λi hi=>by
  have hmi:ms[i]?=some (ms.getD i 0):=by rw[xA7 hi];simp[List.getD,hi]
  rw[zgx hmi];refine ygO G (zdd G _) (zaA hp hm _ _) (by have:=hml i hi;omega) ?_;have:=zdI G root (ms.take i);rw[xAH,show min i ms.length=i by omega]at this;rw[hml i hi,Nat.add_sub_cancel];exact this
 dsimp only[yaw];rcases hs with hs|hs
 ·refine .inl ⟨_,rfl,ps,rfl,⟨_,Same.seq s0 hs⟩,?_⟩;refine yaK (yaT (xs:=ms.map Vn)) (λi σ H'=>Same H H'/\∃(rr:Addr) (s4:Option V),SqT K H' rr ((mkL p m t root (ms.take i)).map Vn)/\σ=[some (.ref fa),some (Vn root),some (.ref ps),some (.ref rr),s4]) ⟨s0,r0,none,SqT.of yab,rfl⟩ (λi σ H' _ h=>Same.seq h.1 hs) ?_ ?_
  ·rintro i z σ H2 H2' hi ⟨s2,rr,s4,hrr,rfl⟩ ⟨rfl,ez⟩;rw[xA1]at hi;rw[yay hi]at ez;cases ez;refine⟨_,rfl,_,rfl,_,rfl,_,rfl,_,rfl,_,rfl,fa,p,m,t,root,((ms.getD i 0:Nat):Int),rfl,Same.tup s2 hF,G,hq,λh=>by omega,?_⟩;rw[ycY G hq];refine⟨fa,p,m,t,0,_,rfl,Same.tup s2 hF,hp,p_le hp hm G.hq,λr h2=>?_⟩;cases zeS hp hm (yao hp hm) (zaA hp hm _ _) h2;refine⟨szl 2,λtt htt=>?_⟩;have st:=zac htt (.tup [Vn (sub p m 0 (pw p m t root (ms.getD i 0))),.int 1]);refine⟨fa,rr,tt,p,m,t,mkL p m t root (ms.take i),[sub p m 0 (pw p m t root (ms.getD i 0)),1],rfl,Same.tup (s2.trans st) hF,G,Same.tup st hrr,SqT.of yab,by have:=hml i hi;omega,by show 2<=200;decide,zdd G _,htwo i,λr H3 s3 nr er=>?_⟩;rw[hnext i hi]at er;exact⟨(s2.trans st).trans s3,r,_,SqT.of er,rfl⟩
  ·rw[xA1];rintro σ H2 ⟨s2,rr,s4,hrr,rfl⟩;rw[xAX]at hrr;exact⟨_,rfl,q rr H2 s2 hrr⟩
 ·refine .inr ⟨_,rfl,ps,rfl,⟨_,Same.tup s0 hs⟩,?_⟩;refine yaK (za9 (xs:=ms.map Vn)) (λi σ H'=>Same H H'/\∃(rr:Addr) (s4:Option V),SqT K H' rr ((mkL p m t root (ms.take i)).map Vn)/\σ=[some (.ref fa),some (Vn root),some (.ref ps),some (.ref rr),s4]) ⟨s0,r0,none,SqT.of yab,rfl⟩ (λi σ H' _ h=>Same.tup h.1 hs) ?_ ?_
  ·rintro i z σ H2 H2' hi ⟨s2,rr,s4,hrr,rfl⟩ ⟨rfl,ez⟩;rw[xA1]at hi;rw[yay hi]at ez;cases ez;refine⟨_,rfl,_,rfl,_,rfl,_,rfl,_,rfl,_,rfl,fa,p,m,t,root,((ms.getD i 0:Nat):Int),rfl,Same.tup s2 hF,G,hq,λh=>by omega,?_⟩;rw[ycY G hq];refine⟨fa,p,m,t,0,_,rfl,Same.tup s2 hF,hp,p_le hp hm G.hq,λr h2=>?_⟩;cases zeS hp hm (yao hp hm) (zaA hp hm _ _) h2;refine⟨szl 2,λtt htt=>?_⟩;have st:=zac htt (.tup [Vn (sub p m 0 (pw p m t root (ms.getD i 0))),.int 1]);refine⟨fa,rr,tt,p,m,t,mkL p m t root (ms.take i),[sub p m 0 (pw p m t root (ms.getD i 0)),1],rfl,Same.tup (s2.trans st) hF,G,Same.tup st hrr,SqT.of yab,by have:=hml i hi;omega,by show 2<=200;decide,zdd G _,htwo i,λr H3 s3 nr er=>?_⟩;rw[hnext i hi]at er;exact⟨(s2.trans st).trans s3,r,_,SqT.of er,rfl⟩
  ·rw[xA1];rintro σ H2 ⟨s2,rr,s4,hrr,rfl⟩;rw[xAX]at hrr;exact⟨_,rfl,q rr H2 s2 hrr⟩
noncomputable def ze4(K:PySem.W.Frag):Sp:=λvs H Q _=>∃(wh fa mk:Addr) (p m t few root:Nat) (marks:List Nat),vs=[.ref wh]/\WhAt H wh fa mk few root marks/\Fld K H fa p m t/\Good p m t/\0<root/\root<p^m/\marks.length<=64/\∀r H',Same H H'->SqT K H' r ((mkL p m t root marks).map Vn)->Q (.ref r) H'
theorem zcb:yah ["wheel","field","few","root","marks"] ["wheel"] (zae zeF):=⟨rfl,rfl,rfl,∅,rfl,∅,∅⟩
theorem zgX(B:Bl mg)(xC9:Has P w K mg base 6 "row_of_roots" ["field","root","powers"] (zg9 K))(F:Fun K "maker" "maker" zeF f fd):FnOk P w K mg base CX0 7 f fd ["wheel"] (ze4 K):=by
 refine F.ok zcb (λvs H Q E h=>?_) (λcdv A outer s H vs Q E hr h=>?_)
 ·obtain⟨wh,fa,mk,p,m,t,few,root,marks,rfl,_⟩:=h;rfl
 obtain⟨wh,fa,mk,p,m,t,few,root,marks,rfl,hW,hF,G,h0,hq,hl,q⟩:=h;refine⟨_,(@yaa _ _ _ _ _ (@za5 _ _ _ _ _ _ (pv 0) (@zaX _ _ _ _ _ _ rfl (@yag _ _ _ _ _ (@yae _ _ 1 _ zcb.nd rfl (Or.inl rfl) (by trivial)) (@yag _ _ _ _ _ (@yae _ _ 2 _ zcb.nd rfl (Or.inl rfl) (by trivial)) (@yag _ _ _ _ _ (@yae _ _ 3 _ zcb.nd rfl (Or.inl rfl) (by trivial)) (@yag _ _ _ _ _ (@yae _ _ 4 _ zcb.nd rfl (Or.inl rfl) (by trivial)) yaE ⋯) ⋯) ⋯) ⋯) ⋯ ⋯) ⋯ ⋯ ⋯) (@yad _ _ _ (@yai _ _ _ _ (@zad _ _ _ _ _ _ _ _ _ _ _ xC9 hr #[] rfl (@zaa _ _ _ _ _ (pv 1) (@zaa _ _ _ _ _ (pv 3) (@zaa _ _ _ _ _ (pv 4) zab ⋯) ⋯) ⋯) #[] ⋯ ⋯)))),?_⟩;refine⟨_,rfl,wh,_,rfl,SqT.of hW.w,rfl,_,_,rfl,_,_,rfl,_,_,rfl,_,_,rfl,rfl,?_⟩;exact⟨_,rfl,_,rfl,_,rfl,fa,mk,p,m,t,root,marks,rfl,hF,G,h0,hq,.inr (SqT.of hW.k),hl,q⟩
noncomputable def yfb(K:PySem.W.Frag):Sp:=λvs H Q _=>∃(fa a b:Addr) (p m t:Nat) (one ds:List Nat),vs=[.ref fa,.ref a,.ref b]/\Fld K H fa p m t/\Good p m t/\SqT K H a (one.map Vn)/\SqT K H b (ds.map Vn)/\one.length<=200/\ds.length<=200/\0<ds.length/\0<ds.getD (ds.length-1) 0/\(∀x∈one,x<p^m)/\(∀x∈ds,x<p^m)/\
 ∀r q1 q2 H',Same H H'->H' r=some (.tup [.ref q1,.ref q2])->H' q1=some (.tup ((trim (dvQ p m t ds one (one.length+1-ds.length) (one.length+1-ds.length))).map Vn))->H' q2=some (.tup ((trim (dvI p m t ds one (one.length+1-ds.length) (one.length+1-ds.length))).map Vn))->Q (.ref r) H'
theorem zaQ:yah ["field","one","other","rest","quotient","at","factor","k","thing"] ["field","one","other"] (zae zci):=⟨rfl,rfl,rfl,∅,rfl,∅,∅⟩
theorem ygN(B:Bl mg)(xC3:Has P w K mg base 5 "over" ["field","one","other"] (yez K))(xC1:Has P w K mg base 2 "minus" ["field","one","other"] (ycD K))(xCc:Has P w K mg base 3 "times" ["field","one","other"] (zba K))(xCe:Has P w K mg base 1 "trimmed" ["things"] (zdr K))(F:Fun K "row_over" "row_over" zci f fd):FnOk P w K mg base CX0 6 f fd ["field","one","other"] (yfb K):=by
 refine F.ok zaQ (λvs H Q E h=>?_) (λcdv A outer s H vs Q E hr h=>?_)
 ·obtain⟨fa,a,b,p,m,t,one,ds,rfl,_⟩:=h;rfl
 obtain⟨fa,a,b,p,m,t,one,ds,rfl,hF,G,ha,hb,lo,ld,hd,hlast,ho,hds,q⟩:=h;have hp:=G.hp;have hm:=G.hm;have hp2:=p_le hp hm G.hq;refine⟨_,(@yaa _ _ _ _ _ (@yaS _ _ _ _ _ _ _ _ (@zai _ _ _ _ _ _ _ _ (zfQ hr.units0) (pv 2) (@zaV _ _ _ _ _ zab) (yaj _)) (@yad _ _ _ ycH) zas) (@yaa _ _ _ _ _ (@yaf _ _ 3 _ _ _ _ zaQ.nd rfl (Or.inl rfl) (@yaq _ _ _ _ _ _ _ _ _ ybK rfl (B "list" #[]) ybl (@zaa _ _ _ _ _ (pv 1) zab ⋯) #[] #[] ⋯ ⋯) ⋯ (by trivial)) (@yaa _ _ _ _ _ (@yaf _ _ 4 _ _ _ _ zaQ.nd rfl (Or.inl rfl) (@zag _ _ _ _ _ _ _ _ zdV (@yaI _ _ _ _ (@zaa _ _ _ _ _ yac zab ⋯)) (@zam _ _ _ _ _ _ _ _ _ (yge rfl) rfl (B "max" #[]) zc3 (@zaa _ _ _ _ _ yac (@zaa _ _ _ _ _ (@zag _ _ _ _ _ _ _ _ yav (@zag _ _ _ _ _ _ _ _ yaW (@zam _ _ _ _ _ _ _ _ _ zak rfl (B "len" #[]) xAR (@zaa _ _ _ _ _ (pv 1) zab ⋯) #[] #[] ⋯ ⋯) (@zam _ _ _ _ _ _ _ _ _ zak rfl (B "len" #[]) xAR (@zaa _ _ _ _ _ (pv 2) zab ⋯) #[] #[] ⋯ ⋯)) yac) zab ⋯) ⋯) #[] #[] ⋯ ⋯)) ⋯ (by trivial)) (@yaa _ _ _ _ _ (@zaF _ _ _ _ _ _ _ _ xAi rfl (@zho _ _ _ _ _ _ rfl (B "reversed" #[]) (@zaa _ _ _ _ _ (@zdZ _ _ _ _ _ rfl (B "range" #[]) (@zaa _ _ _ _ _ (@zam _ _ _ _ _ _ _ _ _ zak rfl (B "len" #[]) xAR (@zaa _ _ _ _ _ (pv 4) zab ⋯) #[] #[] ⋯ ⋯) zab ⋯) ⋯) zab ⋯) ⋯) (@yae _ _ 5 _ zaQ.nd rfl (Or.inl rfl) (by trivial)) (@yaa _ _ _ _ _ (@yaf _ _ 6 _ _ _ _ zaQ.nd rfl (Or.inl rfl) (@zad _ _ _ _ _ _ _ _ _ _ _ xC3 hr #[] rfl (@zaa _ _ _ _ _ (pv 0) (@zaa _ _ _ _ _ (@zao _ _ _ _ _ _ _ yan (pv 3) (@zag _ _ _ _ _ _ _ _ yaW (@zag _ _ _ _ _ _ _ _ yav (pv 5) (@zam _ _ _ _ _ _ _ _ _ zak rfl (B "len" #[]) xAR (@zaa _ _ _ _ _ (pv 2) zab ⋯) #[] #[] ⋯ ⋯)) yac) (λ_ _=>rfl)) (@zaa _ _ _ _ _ (@zao _ _ _ _ _ _ _ zax (pv 2) (@yet _ _ _ _ _ _ ycX yac) (λ_ _=>rfl)) zab ⋯) ⋯) ⋯) #[] ⋯ ⋯) ⋯ (by trivial)) (@yaa _ _ _ _ _ (@za5 _ _ _ _ _ _ (pv 6) (@zct _ _ _ _ _ _ _ (pv 4) (pv 5) ybm (by intro _;rfl)) ⋯ ⋯ ⋯) (@yad _ _ _ (@zaF _ _ _ _ _ _ _ _ xAi rfl (@ybz _ _ _ _ _ _ _ _ rfl (B "enumerate" #[]) (@zaa _ _ _ _ _ (pv 2) zab ⋯) ⋯) (@zaX _ _ _ _ _ _ rfl (@yag _ _ _ _ _ (@yae _ _ 7 _ zaQ.nd rfl (Or.inl rfl) (by trivial)) (@yag _ _ _ _ _ (@yae _ _ 8 _ zaQ.nd rfl (Or.inl rfl) (by trivial)) yaE ⋯) ⋯) ⋯ ⋯) (@yad _ _ _ (@za5 _ _ _ _ _ _ (@zad _ _ _ _ _ _ _ _ _ _ _ xC1 hr #[] rfl (@zaa _ _ _ _ _ (pv 0) (@zaa _ _ _ _ _ (@zao _ _ _ _ _ _ _ yan (pv 3) (@zag _ _ _ _ _ _ _ _ yav (pv 5) (pv 7)) (λ_ _=>rfl)) (@zaa _ _ _ _ _ (@zad _ _ _ _ _ _ _ _ _ _ _ xCc hr #[] rfl (@zaa _ _ _ _ _ (pv 0) (@zaa _ _ _ _ _ (pv 6) (@zaa _ _ _ _ _ (pv 8) zab ⋯) ⋯) ⋯) #[] ⋯ ⋯) zab ⋯) ⋯) ⋯) #[] ⋯ ⋯) (@zct _ _ _ _ _ _ _ (pv 3) (@zag _ _ _ _ _ _ _ _ yav (pv 5) (pv 7)) ybm (by intro _;rfl)) ⋯ ⋯ ⋯)) (by intro _;rfl))))) (by intro _;rfl)) (@yad _ _ _ (@yai _ _ _ _ (@zaV _ _ _ _ _ (@zaa _ _ _ _ _ (@zad _ _ _ _ _ _ _ _ _ _ _ xCe hr #[] rfl (@zaa _ _ _ _ _ (pv 4) zab ⋯) #[] ⋯ ⋯) (@zaa _ _ _ _ _ (@zad _ _ _ _ _ _ _ _ _ _ _ xCe hr #[] rfl (@zaa _ _ _ _ _ (pv 3) zab ⋯) #[] ⋯ ⋯) zab ⋯) ⋯)))))))),?_⟩
 refine⟨_,rfl,szl 0,λe0 he0=>?_⟩;have t0:=zac he0 (.tup []);refine⟨b,e0,ds.map (λx:Nat=>(x:Int)),[],rfl,rfl,by rw[mapI];exact Same.tup t0 hb,SqT.of yab,_,rfl,?_⟩;refine ite2 (λc=>?_) (λ_=>?_)
 ·have c':ds.map (λx:Nat=>(x:Int))=[]:=by simpa using c
  have:=congrArg List.length c';rw[xA1]at this;have h0:ds.length=0:=this;omega
 dsimp only[zeh];refine⟨_,rfl,a,_,rfl,.inr (Same.tup t0 ha),λrs hrs=>?_⟩;have t1:=t0.trans (zac hrs (.lst (one.map Vn)));have ers:upd (upd H e0 (.tup [])) rs (.lst (one.map Vn)) rs=some (.lst (one.map Vn)):=yab;have nrs:=t0.free hrs;dsimp only[yaw];generalize upd (upd H e0 (.tup [])) rs (.lst (one.map Vn))=H1 at t1 ers ⊢;refine⟨szl 1,λl0 hl0=>?_⟩;have t2:=zac hl0 (.lst [V.int 0]);refine⟨_,rfl,a,_,rfl,.inr (Same.tup (t1.trans t2) ha),_,rfl,b,_,rfl,.inr (Same.tup (t1.trans t2) hb),_,_,rfl,rfl,_,_,rfl,rfl,_,_,rfl,?_⟩;have eN:(if (((one.map Vn).length:Nat):Int)-(((ds.map Vn).length:Nat):Int)+1>0 then(((one.map Vn).length:Nat):Int)-(((ds.map Vn).length:Nat):Int)+1 else 0)=((one.length+1-ds.length:Nat):Int):=by
  rw[xA1,xA1];split <;> omega
 rw[eN];obtain⟨N,hN⟩:∃N,one.length+1-ds.length=N:=⟨_,rfl⟩
 rw[hN]at q ⊢;refine⟨l0,(N:Int),_,rfl,rfl,yab,(),(),by rw[xAm];exact szl _ (by simp;omega),λqt hqt=>?_⟩;rw[xAm,ycd,<-ygC p m t ds one N];have t3:=t2.trans (zac hqt (.lst ((dvQ p m t ds one N 0).map Vn)));have nqt:=(t1.trans t2).free hqt;have eqt:upd (upd H1 l0 (.lst [V.int 0])) qt (.lst ((dvQ p m t ds one N 0).map Vn)) qt=some (.lst ((dvQ p m t ds one N 0).map Vn)):=yab;have ers3:=t3 _ _ ers;dsimp only[yaw];generalize upd (upd H1 l0 (.lst [V.int 0])) qt (.lst ((dvQ p m t ds one N 0).map Vn))=H3 at t3 eqt ers3 ⊢;have s3:=t1.trans t3;have nqr:rs≠qt:=λe=>by
  have h1:H1 qt=none:=t2.free hqt;rw[<-e,ers]at h1;cases h1
 refine⟨_,rfl,qt,_,rfl,.inl (SqL.of eqt),_,rfl,λrg hrg=>?_⟩;refine⟨rg,N,rfl,by rw[yab,xA1,zet],(),?_⟩;have s4:=s3.trans (zac hrg (.rng 0 (((dvQ p m t ds one N 0).map Vn).length:Int)));refine yaK zdY (λi σ H'=>Same H H'/\H' rs=some (.lst ((dvI p m t ds one N i).map Vn))/\H' qt=some (.lst ((dvQ p m t ds one N i).map Vn))/\∃s5 s6 s7 s8,σ=[some (.ref fa),some (.ref a),some (.ref b),some (.ref rs),some (.ref qt),s5,s6,s7,s8]) ⟨s4,(zac hrg _) _ _ ers3,(zac hrg _) _ _ eqt,none,none,none,none,rfl⟩ (λ_ _ _ _ _=>trivial) ?_ ?_
 ·rintro i z σ H5 H5' hi ⟨s5',er5,eq5,x5,x6,x7,x8,rfl⟩ ⟨rfl,rfl⟩;have hlen:=ycp p m t ds one N i;have hlt:=zcv (ds:=ds) (N:=N) G ho i;have hlN:ds.length<=one.length:=by omega
  have eat:(N:Int)-1-(i:Int)=((N-1-i:Nat):Int):=by omega
  obtain⟨at',hat⟩:∃a',N-1-i=a':=⟨_,rfl⟩
  refine⟨_,rfl,_,rfl,_,rfl,_,rfl,b,_,rfl,.inr (Same.tup s5' hb),_,_,rfl,rfl,_,_,rfl,rfl,rs,_,_,Vn ((dvI p m t ds one N i).getD (at'+ds.length-1) 0),rfl,rfl,SqL.of er5,?_,?_⟩
  ·rw[xA1,eat,hat,show((at':Nat):Int)+((ds.length:Nat):Int)-1=((at'+ds.length-1:Nat):Int) by omega];exact yaZ (yay (by rw[hlen];omega))
  refine⟨_,rfl,_,rfl,b,_,_,Vn (ds.getD (ds.length-1) 0),rfl,rfl,Same.tup s5' hb,?_,?_⟩
  ·exact zgR (by rw[xA1];exact yay ())
  refine⟨fa,p,m,t,_,_,rfl,Same.tup s5' hF,G,ybH G hlt _,hlast,ybH G hds _,?_⟩;have eF:mul p m t ((dvI p m t ds one N i).getD (at'+ds.length-1) 0) (pw p m t (ds.getD (ds.length-1) 0) (p^m-2))=dvF p m t ds (dvI p m t ds one N i) at':=rfl;rw[eF];dsimp only[yaw];refine⟨_,rfl,_,rfl,_,rfl,?_⟩;refine⟨qt,_,_,at',rfl,rfl,eq5,by rw[xA1,zet,eat,hat];exact zfB (),?_⟩;rw[zeE];have eQ:(dvQ p m t ds one N i).set at' (dvF p m t ds (dvI p m t ds one N i) at')=dvQ p m t ds one N (i+1):=by rw[<-hat];exact zhy hi
  rw[eQ];have s6:=zbB (l:=qt) (o:=.lst ((dvQ p m t ds one N (i+1)).map Vn)) s5' nqt;have er6:upd H5' qt (.lst ((dvQ p m t ds one N (i+1)).map Vn)) rs=some (.lst ((dvI p m t ds one N i).map Vn)):=by rw[zah nqr];exact er5
  have eq6:upd H5' qt (.lst ((dvQ p m t ds one N (i+1)).map Vn)) qt=some (.lst ((dvQ p m t ds one N (i+1)).map Vn)):=yab;generalize upd H5' qt (.lst ((dvQ p m t ds one N (i+1)).map Vn))=H6 at s6 er6 eq6 ⊢;have eI:dvI p m t ds one N (i+1)=dvJ p m t ds (dvI p m t ds one N i) at' (dvF p m t ds (dvI p m t ds one N i) at') ds.length:=by rw[<-hat];rfl
  have hclt:=yie G ds (dvI p m t ds one N i) at';rw[<-ygP p m t ds (dvI p m t ds one N i) at' (dvF p m t ds (dvI p m t ds one N i) at')]at er6;generalize dvF p m t ds (dvI p m t ds one N i) at'=cc at er6 eI hclt ⊢;rw[eI];generalize dvI p m t ds one N i=R at hlen hlt er6 ⊢;refine⟨_,rfl,true,b,rfl,⟨_,Same.tup s6 hb⟩,?_⟩;refine yaK (zaW (b:=true) (xs:=ds.map Vn)) (λj σ H'=>Same H H'/\H' rs=some (.lst ((dvJ p m t ds R at' cc j).map Vn))/\H' qt=some (.lst ((dvQ p m t ds one N (i+1)).map Vn))/\∃s7 s8,σ=[some (.ref fa),some (.ref a),some (.ref b),some (.ref rs),some (.ref qt),some (.int ((N:Int)-1-(i:Int))),some (Vn cc),s7,s8]) ⟨s6,er6,eq6,_,_,rfl⟩ (λ_ _ _ _ h=>Same.tup h.1 hb) ?_ ?_
  ·rintro j z σ H7 H8 hj ⟨s7,er7,eq7,y7,y8,rfl⟩ ⟨T,u,rfl,eu,hT,rfl⟩;rw[xA1]at hj;rw[yay hj]at eu;cases eu;have sT:=s7.trans (zac hT (.tup [.int (j:Int),Vn (ds.getD j 0)]));have er8:=(zac hT (.tup [.int (j:Int),Vn (ds.getD j 0)])) _ _ er7;have eq8:=(zac hT (.tup [.int (j:Int),Vn (ds.getD j 0)])) _ _ eq7;refine⟨T,_,rfl,SqT.of yab,rfl,_,_,rfl,_,_,rfl,rfl,?_⟩;generalize upd H7 T (.tup [.int (j:Int),Vn (ds.getD j 0)])=H8 at sT er8 eq8 ⊢;have hF8:Fld K H8 fa p m t:=Same.tup sT hF;refine⟨_,rfl,_,rfl,_,rfl,_,rfl,_,_,rfl,rfl,rs,_,_,Vn (R.getD (at'+j) 0),rfl,rfl,SqL.of er8,?_,?_⟩
   ·rw[eat,hat,show((at':Nat):Int)+((j:Nat):Int)=((at'+j:Nat):Int) by omega];refine yaZ ?_;rw[yay (by rw[ycM,hlen];omega),yeF (by rw[hlen];omega),if_neg ()]
   refine⟨_,rfl,_,rfl,_,rfl,fa,p,m,t,cc,ds.getD j 0,rfl,hF8,hp,hm,G.hq,G.top,hclt,ybH G hds j,λr br h1=>?_⟩;cases zbH hp hm br h1;refine⟨fa,p,m,t,_,_,rfl,hF8,hp,hp2,λr h2=>?_⟩;cases zeS hp hm (ybH G hlt _) (zaw hp hm _ _) h2;refine⟨_,rfl,_,rfl,_,rfl,_,_,rfl,rfl,?_⟩;refine⟨rs,_,_,at'+j,rfl,rfl,er8,?_,?_⟩
   ·rw[xA1,ycM,eat,hat,show((at':Nat):Int)+((j:Nat):Int)=((at'+j:Nat):Int) by omega];exact zfB (by rw[hlen];omega)
   ·rw[zeE,zhW];exact⟨zbB sT nrs,yab,by rw[zah (λe=>nqr e.symm)];exact eq8,_,_,rfl⟩
  ·rw[xA1];rintro σ H7 ⟨s7,er7,eq7,y7,y8,rfl⟩;exact⟨s7,er7,eq7,_,_,_,_,rfl⟩
 ·rintro σ H5 ⟨s5',er5,eq5,x5,x6,x7,x8,rfl⟩;refine⟨_,rfl,qt,dvQ p m t ds one N N,rfl,SqL.of eq5,by rw[zet];omega,λq1 H6 s6 nq1 eq1=>?_⟩;refine⟨_,rfl,rs,dvI p m t ds one N N,rfl,SqL.of (s6 _ _ er5),by rw[ycp];omega,λq2 H7 s7 nq2 eq2=>?_⟩;refine⟨szl 2,λr hr'=>?_⟩;have s8:=zac hr' (.tup [.ref q1,.ref q2]);exact q r q1 q2 _ (s5'.trans (s6.trans (s7.trans s8))) yab (s8 _ _ (s7 _ _ eq1)) (s8 _ _ eq2)
noncomputable def zfC(K:PySem.W.Frag):Sp:=λvs H Q _=>∃(wh fa mk gv:Addr) (p m t few root:Nat) (marks gs:List Nat),vs=[.ref wh,.ref gv]/\WhAt H wh fa mk few root marks/\Fld K H fa p m t/\Good p m t/\0<root/\root<p^m/\marks.length<=64/\SqT K H gv (gs.map Vn)/\gs.length<=64/\(∀x∈gs,x<p^m)/\∀r H',Same H H'->SqT K H' r ((mdL p m t root marks gs).map Vn)->Q (.ref r) H'
theorem yb4:yah ["wheel","given","field","few","root","marks","bound","rest"] ["wheel","given"] (zae zfa):=⟨rfl,rfl,rfl,∅,rfl,∅,∅⟩
theorem zhr(B:Bl mg)(xCa:Has P w K mg base 6 "row_over" ["field","one","other"] (yfb K))(xCe:Has P w K mg base 1 "trimmed" ["things"] (ydC K))(xBZ:Has P w K mg base 7 "maker" ["wheel"] (ze4 K))(xC1:Has P w K mg base 2 "minus" ["field","one","other"] (ycD K))(xCi:Has P w K mg base 1 "widened" ["row","many"] (zg6 K))(F:Fun K "made" "made" zfa f fd):FnOk P w K mg base CX0 8 f fd ["wheel","given"] (zfC K):=by
 refine F.ok yb4 (λvs H Q E h=>?_) (λcdv A outer s H vs Q E hr h=>?_)
 ·obtain⟨wh,fa,mk,gv,p,m,t,few,root,marks,gs,rfl,_⟩:=h;rfl
 obtain⟨wh,fa,mk,gv,p,m,t,few,root,marks,gs,rfl,hW,hF,G,h0,hq,hml,hgv,hgl,hgs,q⟩:=h;have hp:=G.hp;have hm:=G.hm;have hp2:=p_le hp hm G.hq;refine⟨_,(@yaa _ _ _ _ _ (@za5 _ _ _ _ _ _ (pv 0) (@zaX _ _ _ _ _ _ rfl (@yag _ _ _ _ _ (@yae _ _ 2 _ yb4.nd rfl (Or.inr rfl) (by trivial)) (@yag _ _ _ _ _ (@yae _ _ 3 _ yb4.nd rfl (Or.inl rfl) (by trivial)) (@yag _ _ _ _ _ (@yae _ _ 4 _ yb4.nd rfl (Or.inl rfl) (by trivial)) (@yag _ _ _ _ _ (@yae _ _ 5 _ yb4.nd rfl (Or.inl rfl) (by trivial)) yaE ⋯) ⋯) ⋯) ⋯) ⋯ ⋯) ⋯ ⋯ ⋯) (@yaa _ _ _ _ _ (@yaf _ _ 6 _ _ _ _ yb4.nd rfl (Or.inl rfl) (@zam _ _ _ _ _ _ _ _ _ zak rfl (B "len" #[]) xAR (@zaa _ _ _ _ _ (pv 5) zab ⋯) #[] #[] ⋯ ⋯) ⋯ (by trivial)) (@yaa _ _ _ _ _ (@yaf _ _ 7 _ _ _ _ yb4.nd rfl (Or.inl rfl) (@zao _ _ _ _ _ _ _ zax (@zad _ _ _ _ _ _ _ _ _ _ _ xCa hr #[] rfl (@zaa _ _ _ _ _ (pv 2) (@zaa _ _ _ _ _ (@zad _ _ _ _ _ _ _ _ _ _ _ xCe hr #[] rfl (@zaa _ _ _ _ _ (@zag _ _ _ _ _ _ _ _ zco (@zag _ _ _ _ _ _ _ _ ydN (@zaV _ _ _ _ _ (@zaa _ _ _ _ _ yac zab ⋯)) (pv 6)) (pv 1)) zab ⋯) #[] ⋯ ⋯) (@zaa _ _ _ _ _ (@zad _ _ _ _ _ _ _ _ _ _ _ xBZ hr #[] rfl (@zaa _ _ _ _ _ (pv 0) zab ⋯) #[] ⋯ ⋯) zab ⋯) ⋯) ⋯) #[] ⋯ ⋯) yac (λ_ _=>rfl)) ⋯ (by trivial)) (@yad _ _ _ (@yai _ _ _ _ (@zag _ _ _ _ _ _ _ _ zco (@yaq _ _ _ _ _ _ _ _ _ yap rfl (B "tuple" #[]) zap (@zaa _ _ _ _ _ (@zaI _ _ _ _ _ _ _ ["thing"] ["field"] [2] _ _ _ _ (id (α:=CSc ["wheel","given","field","few","root","marks","bound","rest"] (zae zfa) ["thing"] ["field"] [2] _) ⟨by rfl,∅,∅,∅,∅,by rfl,∅⟩) rfl (@ybc _ _ _ _ (@zad _ _ _ _ _ _ _ _ _ _ _ xCi hr #[] rfl (@zaa _ _ _ _ _ (pv 7) (@zaa _ _ _ _ _ (pv 6) zab ⋯) ⋯) #[] ⋯ ⋯)) (λcl C fp s H=>(@yae _ _ 0 _ (by show List.Nodup (["thing","field"]:List Str);decide +kernel) rfl (Or.inl rfl) (by trivial))) (λ_ _ _ _ _=>yaD) (λ_ _ _ _ _=>(@zad _ _ _ _ _ _ _ _ _ _ _ xC1 hr #[] rfl (@zaa _ _ _ _ _ (pv 1) (@zaa _ _ _ _ _ yac (@zaa _ _ _ _ _ (pv 0) zab ⋯) ⋯) ⋯) #[] ⋯ ⋯)) (by intro _;rfl)) zab ⋯) #[] #[] ⋯ ⋯) (pv 1))))))),?_⟩;refine⟨_,rfl,wh,_,rfl,SqT.of hW.w,rfl,_,_,rfl,_,_,rfl,_,_,rfl,_,_,rfl,rfl,?_⟩;refine⟨_,rfl,mk,_,rfl,.inr (SqT.of hW.k),?_⟩;rw[xA1];dsimp only[yaw];refine⟨_,rfl,szl 1,λz hz=>?_⟩;have t1:=zac hz (.tup [.int 0]);refine⟨_,rfl,ydr (SqT.of yab) () λz2 H2 t2 hz2=>?_⟩;refine⟨_,rfl,zcU hz2 (Same.tup (t1.trans t2) hgv) (by rw[xA1,xA1,xAq];omega) λz3 H3 t3 hz3=>?_⟩;rw[<-xA8]at hz3;refine .inr ⟨z3,_,rfl,hz3,by rw[xAx,xAq];omega,λz4 H4 t4 hz4=>?_⟩;have s4:=(t1.trans t2).trans (t3.trans t4);refine⟨_,rfl,wh,fa,mk,p,m,t,few,root,marks,rfl,hW.same s4,Same.tup s4 hF,G,h0,hq,hml,λmr H5 t5 hmr=>?_⟩;have s5:=s4.trans t5;have hRl:(mdR p m t root marks gs).length<=marks.length+gs.length:=by
  have:=yer (List.replicate marks.length 0++gs);rw[xAx,xAq]at this;exact this
 have hkl:=zb1 p m t root marks;refine⟨fa,z4,mr,p,m,t,mdR p m t root marks gs,mkL p m t root marks,rfl,Same.tup s5 hF,G,Same.tup t5 hz4,hmr,(),(),(),by rw[hkl,Nat.add_sub_cancel,zdI G];exact Nat.one_pos,ze2 G hgs,zdd G marks,λrr q1 q2 H6 t6 err eq1 eq2=>?_⟩;have s6:=s5.trans t6;refine⟨rr,_,_,.ref q2,rfl,rfl,SqT.of err,rfl,?_⟩;dsimp only[yaw];have htr:=ycA (root:=root) (marks:=marks) G hgs;have eL:mdL p m t root marks gs=((wid (trim (dvI p m t (mkL p m t root marks) (mdR p m t root marks gs) (mdN p m t root marks gs) (mdN p m t root marks gs))) marks.length).map (sub p m 0))++gs:=rfl;have hlt:∀x∈trim (dvI p m t (mkL p m t root marks) (mdR p m t root marks gs) (mdN p m t root marks gs) (mdN p m t root marks gs)),x<p^m:=λx hx=>zcv G (ze2 G hgs) _ x (ycz _ _ hx)
 change H6 q2=some (.tup ((trim (dvI p m t (mkL p m t root marks) (mdR p m t root marks gs) (mdN p m t root marks gs) (mdN p m t root marks gs))).map Vn)) at eq2;rw[eL]at q;generalize trim (dvI p m t (mkL p m t root marks) (mdR p m t root marks gs) (mdN p m t root marks gs) (mdN p m t root marks gs))=R at htr hlt eq2 q;refine⟨_,rfl,_,rfl,q2,R,marks.length,rfl,SqT.of eq2,htr,(),λwl H7 t7 nwl ewl=>?_⟩;have s7:=s6.trans t7;have hwl:=ydy htr;have hwlt:=zha (n:=marks.length) (yao hp hm) hlt;refine⟨wl,rfl,⟨_,SqL.of ewl⟩,?_⟩;refine zav (yaT (xs:=(wid R marks.length).map Vn)) (λk acc H'=>H'=H7/\acc=(((wid R marks.length).take k).map (sub p m 0)).map Vn) ⟨rfl,rfl⟩ (λi acc H' _ h=>h.1 ▸ SqL.of ewl) ?_ ?_ ?_
 ·rintro k acc H' hk ⟨_,rfl⟩;rw[xA1,hwl]at hk;rw[xA1,xA1,xAH];exact zal ()
 ·rintro k acc x H8 H8' hk ⟨rfl,rfl⟩ ⟨rfl,ez⟩;rw[xA1]at hk;rw[yay hk]at ez;cases ez;refine⟨_,rfl,_,rfl,fa,p,m,t,0,(wid R marks.length).getD k 0,rfl,Same.tup s7 hF,hp,hp2,λr h=>?_⟩;cases zeS hp hm (yao hp hm) (yaM hwlt hk) h;refine⟨rfl,?_⟩;rw[zbR hk,xA8,xA8];rfl
 rw[xA1];rintro acc H8 ⟨rfl,rfl⟩ D hD;rw[xAX];have t8:=zac hD (.lst (((wid R marks.length).map (sub p m 0)).map Vn));refine⟨D,_,rfl,.inl ⟨SqL.of yab,λtp htp=>?_⟩⟩;have t9:=t8.trans (zac htp (.tup (((wid R marks.length).map (sub p m 0)).map Vn)));refine⟨_,rfl,zcU (SqT.of yab) (Same.tup (s7.trans t9) hgv) (by rw[xA1,xA1,hwl,xA1];omega) λr H9 t10 hr=>?_⟩;rw[<-xA8]at hr;exact q r H9 ((s7.trans t9).trans t10) hr
end
end My
end
section
-- text: PQ
namespace My
open PySem L2 Dg
noncomputable def hor(p m t y:Nat):List Nat->List Nat
 | []=>[]
 |_::r=>val p m t y r::hor p m t y r
theorem yel(p m t y:Nat):∀(xs:List Nat) (i:Nat),(hor p m t y xs).getD i 0=val p m t y (xs.drop (i+1))
 | [],i=>by simp[hor,val]
 |a::r,0=>rfl
 |a::r,i+1=>yel p m t y r i
section
variable {p m t:Nat} (G:Good p m t)
include G
theorem zhi(y:Nat):∀(xs:List Nat),∀x∈hor p m t y xs,x<p^m
 | [],x,h=>nomatch h
 |a::r,x,h=>by
  rcases xAa.mp h with h|h
  ·rw[h];exact zbt G.hp G.hm _ _
  ·exact zhi y r x h
theorem zdS{x y:Nat}(hx:x<p^m)(hy:y<p^m)(h:sub p m x y=0):x=y:=by
 have:=zcn G.hp G.hm (y:=y) hx;rw[h,zero_add G.hp G.hm hy]at this;exact this.symm
theorem yfR{y z:Nat}(hz:z<p^m):∀(xs:List Nat),(∀x∈xs,x<p^m)->val p m t z xs=add p m (mul p m t (sub p m z y) (val p m t z (hor p m t y xs))) (val p m t y xs)
 | [],_=>by
  show 0=add p m (mul p m t (sub p m z y) 0) 0;rw[mul_zero G.hp G.hm,add_zero G.hp G.hm (yao G.hp G.hm)]
 |a::r,h=>by
  have hp:=G.hp;have hm:=G.hm;have ih:=yfR hz r (λx hx=>h x (xAd _ hx)) (y:=y);show add p m (mul p m t (val p m t z r) z) a=add p m (mul p m t (sub p m z y) (add p m (mul p m t (val p m t z (hor p m t y r)) z) (val p m t y r))) (add p m (mul p m t (val p m t y r) y) a);have e1:mul p m t (val p m t y r) z=add p m (mul p m t (sub p m z y) (val p m t y r)) (mul p m t (val p m t y r) y):=by
   rw[mul_comm hp hm (sub p m z y),<-mul_add hp hm,zcn hp hm hz]
  rw[<-add_assoc hp hm];refine congrArg (add p m · a) ?_;rw[ih,add_mul hp hm,e1,mul_add hp hm,add_assoc hp hm,mul_assoc hp hm]
theorem zd9:∀(pts:List Nat) (xs:List Nat),pts.Nodup->(∀y∈pts,y<p^m)->(∀x∈xs,x<p^m)->(∀i,pts.length<=i->xs.getD i 0=0)->(∀y∈pts,val p m t y xs=0)->∀i,xs.getD i 0=0
 | [],xs,_,_,_,h,_=>λi=>h i (xB1 _)
 |y::pts,xs,hn,hy,hx,h,hv=>by
  have hp:=G.hp;have hm:=G.hm;have vz:∀(k:Nat),(∀i,k<=i->xs.getD i 0=0)->val p m t y (xs.drop k)=0:=λk hk=>by
   have e:xs.drop k=List.replicate (xs.drop k).length 0:=by
    refine List.eq_replicate_iff.mpr ⟨rfl,λb hb=>?_⟩;obtain⟨i,hi,rfl⟩:=List.mem_iff_getElem.mp hb;rw[List.getElem_drop];have:=hk (k+i) ();rw[List.length_drop]at hi;rw[xAn,xA7 ()]at this;exact this
   rw[e];generalize (xs.drop k).length=n
   induction n with
   |zero=>rfl
   |succ n ih=>
    show add p m (mul p m t (val p m t y (List.replicate n 0)) y) 0=0;rw[ih,zero_mul hp hm,add_zero hp hm (yao hp hm)]
  have hes:∀i,(hor p m t y xs).getD i 0=0:=by
   refine zd9 pts (hor p m t y xs) (xBk.mp hn).2 (λz hz=>hy z (xAd _ hz)) (zhi G y xs) (λi hi=>?_) (λz hz=>?_)
   ·rw[yel];exact vz (i+1) λj hj=>h j (by simp;omega)
   ·have e:=yfR G (y:=y) (hy z (xAd _ hz)) xs hx;rw[hv z (xAd _ hz),hv y xAf,add_zero hp hm (zaw hp hm _ _)]at e;rcases xAO (val p m t z (hor p m t y xs)) with c|c
    ·exact c
    ·have hne:0<sub p m z y:=by
      rcases xAO (sub p m z y) with d|d
      ·have:=zdS G (hy z (xAd _ hz)) (hy y xAf) d;exact absurd (this ▸ hz) (xBk.mp hn).1
      ·exact d
     have:=G.noz hne (zbX hp hm _ _) c (zbt hp hm _ _);omega
  have hd:∀i,val p m t y (xs.drop i)=0
   |0=>by rw[List.drop_zero];exact hv y xAf
   |i+1=>by rw[<-yel];exact hes i
  intro i;by_cases c:i<xs.length
  ·have e:=hd i;rw[List.drop_eq_getElem_cons c]at e;change add p m (mul p m t (val p m t y (xs.drop (i+1))) y) xs[i]=0 at e;rw[hd (i+1),zero_mul hp hm,zero_add hp hm (hx _ (List.getElem_mem c))]at e;rw[xAn,xA7 c];exact e
  ·exact yaB ()
theorem zd8{pts u v:List Nat}(hn:pts.Nodup)(hy:∀y∈pts,y<p^m)(hl:u.length=v.length)(hu:∀x∈u,x<p^m)(hv:∀x∈v,x<p^m)(hd:u.drop pts.length=v.drop pts.length)(h:∀y∈pts,val p m t y u=val p m t y v):u=v:=by
 have hp:=G.hp;have hm:=G.hm;have lp:(zaB p m t (p-1) v).length=v.length:=by simp[zaB]
 have gp:∀i,(zaB p m t (p-1) v).getD i 0=mul p m t (p-1) (v.getD i 0):=λi=>by
  by_cases c:i<v.length
  ·exact rget c
  ·rw[yaB (xs:=v) (),yaB (by rw[lp];omega),mul_zero hp hm]
 have gd:∀i,i<u.length->(addL p m u (zaB p m t (p-1) v)).getD i 0=sub p m (u.getD i 0) (v.getD i 0):=λi hi=>by
  have:(addL p m u (zaB p m t (p-1) v)).getD i 0=add p m (u.getD i 0) ((zaB p m t (p-1) v).getD i 0):=rget (by rw[lp,hl,Nat.min_self];omega);rw[this,gp,ye1 hp hm (ybH G hu i) (ybH G hv i)]
 have la:=ydL (p:=p) (m:=m) (n:=u.length) (ys:=zaB p m t (p-1) v) rfl (by rw[lp,hl]);have z:=zd9 G pts (addL p m u (zaB p m t (p-1) v)) hn hy (yem G _ _) (λi hi=>by
  by_cases c:i<u.length
  ·rw[gd i c];have e:u.getD i 0=v.getD i 0:=by
    have h1:=congrArg (λl=>l.getD (i-pts.length) 0) hd;rw[xAn,List.getElem?_drop,xAn,List.getElem?_drop,show pts.length+(i-pts.length)=i by omega]at h1;rw[xAn,xAn];exact h1
   rw[e];exact zcf G (ybH G hv i)
  ·exact yaB (by rw[la];omega)) (λy hy'=>by
  rw[ze5 G (hy y hy') rfl (by rw[lp,hl]) hu (ybQ G _ _),yd1 G (hy y hy') hv,h y hy',ye1 hp hm (zbt hp hm _ _) (zbt hp hm _ _)];exact zcf G (zbt hp hm _ _))
 refine xAS hl λi h1 h2=>?_
 have e:=z i;rw[gd i h1]at e;have:=zdS G (ybH G hu i) (ybH G hv i) e;rw[xAn,xA7 h1,xAn,xA7 h2]at this;exact this
theorem zeO(y:Nat)(xs ys:List Nat)(hx:∀x∈xs,x<p^m)(hy:y<p^m):val p m t y (xs++ys)=add p m (mul p m t (val p m t y ys) (pw p m t y xs.length)) (val p m t y xs):=by
 have hp:=G.hp;have hm:=G.hm
 induction xs with
 |nil=>
  show val p m t y ys=add p m (mul p m t (val p m t y ys) 1) 0;rw[mul_one hp hm (zbt hp hm _ _),add_zero hp hm (zbt hp hm _ _)]
 |cons a r ih=>
  show add p m (mul p m t (val p m t y (r++ys)) y) a=add p m (mul p m t (val p m t y ys) (pw p m t y (r.length+1))) (add p m (mul p m t (val p m t y r) y) a);rw[ih (λx h=>hx x (xAd _ h)),add_mul hp hm,<-add_assoc hp hm,mul_assoc hp hm,ya6 hp hm,ybY hp hm hy]
theorem ydO(y:Nat):∀l:List Nat,(∀x∈l,x<p^m)->val p m t y (trim l)=val p m t y l
 | [],_=>rfl
 |x::xs,h=>by
  have hp:=G.hp;have hm:=G.hm;have ih:=ydO y xs λz hz=>h z (xAd _ hz)
  cases e:trim xs with
  |nil=>
   have e2:trim (x::xs)=if x=0 then [] else [x]:=by show(match trim xs with | []=>_|r=>_)=_;rw[e]
   rw[e]at ih;have h0:val p m t y xs=0:=ih.symm;rw[e2];show _=add p m (mul p m t (val p m t y xs) y) x;rw[h0,zero_mul hp hm,zero_add hp hm (h x xAf)];by_cases c:x=0
   ·rw[if_pos c,c];rfl
   ·rw[if_neg c];show add p m (mul p m t 0 y) x=x;rw[zero_mul hp hm,zero_add hp hm (h x xAf)]
  |cons z r=>
   have e2:trim (x::xs)=x::z::r:=by show(match trim xs with | []=>_|r=>_)=_;rw[e]
   rw[e]at ih;rw[e2];show add p m (mul p m t (val p m t y (z::r)) y) x=add p m (mul p m t (val p m t y xs) y) x;rw[ih]
theorem zcL(y:Nat):∀n,val p m t y (List.replicate n 0)=0
 |0=>rfl
 |n+1=>by
  show add p m (mul p m t (val p m t y (List.replicate n 0)) y) 0=0;rw[zcL y n,zero_mul G.hp G.hm,add_zero G.hp G.hm (yao G.hp G.hm)]
theorem yhJ{y:Nat}(hy:y<p^m)(xs:List Nat)(n:Nat)(hx:∀x∈xs,x<p^m):val p m t y (wid xs n)=val p m t y xs:=by
 unfold wid;rw[zeO G y _ _ hx hy,zcL G,zero_mul G.hp G.hm,zero_add G.hp G.hm (zbt G.hp G.hm _ _)]
theorem yit(a b c d:Nat):add p m (add p m a b) (add p m c d)=add p m (add p m a c) (add p m b d):=by
 have hp:=G.hp;have hm:=G.hm;rw[add_assoc hp hm,<-add_assoc hp hm b,add_comm hp hm b c,add_assoc hp hm c,<-add_assoc hp hm]
theorem yhC{y:Nat}(hy:y<p^m)(xs:List Nat)(hx:∀x∈xs,x<p^m):add p m (val p m t y (xs.map (sub p m 0))) (val p m t y xs)=0:=by
 have hp:=G.hp;have hm:=G.hm
 induction xs with
 |nil=>exact add_zero hp hm (yao hp hm)
 |cons a r ih=>
  have ih:=ih λx h=>hx x (xAd _ h)
  show add p m (add p m (mul p m t (val p m t y (r.map (sub p m 0))) y) (sub p m 0 a)) (add p m (mul p m t (val p m t y r) y) a)=0;rw[yit G,<-add_mul hp hm,ih,zero_mul hp hm,zcn hp hm (yao hp hm),add_zero hp hm (yao hp hm)]
theorem yd0{f:Nat->Nat}{k:Nat}(h:∀i,i<k->f i=0):∀d,sumF p m (k+d) f=sumF p m d λi=>f (k+i)
 |0=>by
  have e:=yal G.hp G.hm (f:=f) (g:=λ_=>0) k λi hi=>h i hi
  rw[Nat.add_zero,e];have:=yba G.hp G.hm (λ_=>0) 0 k (λ_ _ _=>rfl);rw[xBu]at this;exact this
 |d+1=>by
  show add p m (sumF p m (k+d) f) (f (k+d))=add p m (sumF p m d λi=>f (k+i)) (f (k+d));rw[yd0 h d]
theorem yhB{y a c:Nat}{ds rest:List Nat}(hy:y<p^m)(hds:∀x∈ds,x<p^m)(hr:∀x∈rest,x<p^m)(hl:a+ds.length<=rest.length)(h0:val p m t y ds=0):val p m t y (dvJ p m t ds rest a c ds.length)=val p m t y rest:=by
 have hp:=G.hp;have hm:=G.hm;have hw:sumF p m rest.length (λi=>if a<=i/\i<a+ds.length then mul p m t (mul p m t c (ds.getD (i-a) 0)) (pw p m t y i) else 0)=0:=by
  have e:=yba hp hm (λi=>if a<=i/\i<a+ds.length then mul p m t (mul p m t c (ds.getD (i-a) 0)) (pw p m t y i) else 0) (a+ds.length) (rest.length-(a+ds.length)) (λi h1 h2=>if_neg ());rw[show a+ds.length+(rest.length-(a+ds.length))=rest.length by omega]at e;rw[e,yd0 G (λi hi=>if_neg ())];have e2:sumF p m ds.length (λi=>if a<=a+i/\a+i<a+ds.length then mul p m t (mul p m t c (ds.getD (a+i-a) 0)) (pw p m t y (a+i)) else 0)=sumF p m ds.length λi=>mul p m t (mul p m t (ds.getD i 0) (pw p m t y i)) (mul p m t c (pw p m t y a)):=by
   refine yal hp hm _ λi hi=>?_
   rw[if_pos (),Nat.add_sub_cancel_left,ya6 hp hm,mul_comm hp hm c,mul_assoc hp hm,mul_assoc hp hm];refine congrArg (mul p m t (ds.getD i 0)) ?_;rw[<-mul_assoc hp hm,mul_comm hp hm]
  rw[e2,yaY hp hm,<-zaP hp hm hy ds hds,h0,zero_mul hp hm]
 rw[zaP hp hm hy _ (yha G hr),zaP hp hm hy _ hr,ycM];have e3:=ycV hp hm rest.length (λi=>mul p m t ((dvJ p m t ds rest a c ds.length).getD i 0) (pw p m t y i)) (λi=>if a<=i/\i<a+ds.length then mul p m t (mul p m t c (ds.getD (i-a) 0)) (pw p m t y i) else 0);rw[hw,add_zero hp hm (ycb hp hm _ _)]at e3;rw[<-e3];refine yal hp hm _ λi hi=>?_
 rw[yeF hi];by_cases c1:a<=i/\i<a+ds.length
 ·rw[if_pos c1,if_pos c1,<-add_mul hp hm,zcn hp hm (ybH G hr i)]
 ·rw[if_neg c1,if_neg c1,add_zero hp hm (zaw hp hm _ _)]
theorem yf4{y:Nat}{ds one:List Nat}{N:Nat}(hN:N=one.length+1-ds.length)(hy:y<p^m)(hds:∀x∈ds,x<p^m)(ho:∀x∈one,x<p^m)(h0:val p m t y ds=0)(hd:0<ds.length):∀i,i<=N->val p m t y (dvI p m t ds one N i)=val p m t y one
 |0,_=>rfl
 |i+1,hi=>by
  show val p m t y (dvJ p m t ds (dvI p m t ds one N i) (N-1-i) (dvF p m t ds (dvI p m t ds one N i) (N-1-i)) ds.length)=_;rw[yhB G hy hds (zcv G ho i) (by rw[ycp];omega) h0];exact yf4 hN hy hds ho h0 hd i ()
theorem ydB{root k:Nat}{marks gs:List Nat}(hg:∀x∈gs,x<p^m)(hk:k∈marks):val p m t (pw p m t root k) (mdL p m t root marks gs)=0:=by
 have hp:=G.hp;have hm:=G.hm;have hy:=zaA hp hm (t:=t) root k;have hz:=zg4 G (root:=root) hk;have hR:=ze2 (root:=root) (marks:=marks) G hg;have e1:val p m t (pw p m t root k) (trim (dvI p m t (mkL p m t root marks) (mdR p m t root marks gs) (mdN p m t root marks gs) (mdN p m t root marks gs)))=val p m t (pw p m t root k) (List.replicate marks.length 0++gs):=by
  rw[ydO G _ _ (zcv G hR _),yf4 G (N:=mdN p m t root marks gs) rfl hy (zdd G marks) hR hz (by rw[zb1];omega) _ (xA4 _)];unfold mdR;refine ydO G _ _ λx hx=>?_
  rcases xAB.mp hx with c|c
  ·rw[xBe c];exact yao hp hm
  ·exact hg x c
 have hlt:∀x∈trim (dvI p m t (mkL p m t root marks) (mdR p m t root marks gs) (mdN p m t root marks gs) (mdN p m t root marks gs)),x<p^m:=λx hx=>zcv G hR _ x (ycz _ _ hx)
 have hwl:=ydy (ycA (root:=root) (marks:=marks) G hg);unfold mdL;rw[zeO G _ _ _ (λx hx=>by obtain⟨z,_,rfl⟩:=xAe.mp hx;exact zbX hp hm _ _) hy,xA1,hwl];have e2:=yhC G hy (wid (trim (dvI p m t (mkL p m t root marks) (mdR p m t root marks gs) (mdN p m t root marks gs) (mdN p m t root marks gs))) marks.length) (zha (yao hp hm) hlt);rw[yhJ G hy _ _ hlt,e1,zeO G _ _ _ (λx hx=>by rw[xBe hx];exact yao hp hm) hy,zcL G,xAq,add_zero hp hm (zaw hp hm _ _),add_comm hp hm]at e2;exact e2
theorem zff{y few:Nat}(hy:y<p^m):∀xs:List Nat,(∀x∈xs,x<p^m)->val p m t (pw p m t y (p^few)) (xs.map λx=>pw p m t x (p^few))=pw p m t (val p m t y xs) (p^few)
 | [],_=>by
  show 0=pw p m t 0 (p^few);have:0<p^few:=xB7 (by have:=G.hp;omega);rw[show p^few=(p^few-1)+1 by omega,yck G.hp G.hm]
 |a::r,h=>by
  have hp:=G.hp;have hm:=G.hm;show add p m (mul p m t (val p m t (pw p m t y (p^few)) (r.map λx=>pw p m t x (p^few))) (pw p m t y (p^few))) (pw p m t a (p^few))=pw p m t (add p m (mul p m t (val p m t y r) y) a) (p^few);rw[zff hy r (λx hx=>h x (xAd _ hx)),<-zcc hp hm,G.frobN few (zaw hp hm _ _) (h a xAf)]
theorem yhe{root n:Nat}{marks:List Nat}(r0:0<root)(hr:root<p^m)(o:Ord p m t root n)(hasc:marks.Pairwise (· < ·))(hl:∀x∈marks,x<n):(marks.map λk=>pw p m t root k).Nodup:=by
 rw[List.Nodup,List.pairwise_map];refine List.Pairwise.imp_of_mem (λ{a b} ha hb h e=>?_) hasc;have:=zes G r0 hr o (hl a ha) (hl b hb) e;omega
theorem ygh{few root n:Nat}{marks u v:List Nat}(W:Whl p m t few root n marks)(hl:u.length=v.length)(hu:∀x∈u,x<p^m)(hv:∀x∈v,x<p^m)(hd:u.drop marks.length=v.drop marks.length)(zu:∀k∈marks,val p m t (pw p m t root k) u=0)(zv:∀k∈marks,val p m t (pw p m t root k) v=0):u=v:=by
 refine zd8 G (pts:=marks.map λk=>pw p m t root k) (yhe G W.r0 W.rq W.ord W.asc W.lt) (λy hy=>?_) hl hu hv (by rw[xA1];exact hd) (λy hy=>?_)
 ·obtain⟨k,_,rfl⟩:=xAe.mp hy;exact zaA G.hp G.hm _ _
 ·obtain⟨k,hk,rfl⟩:=xAe.mp hy;rw[zu k hk,zv k hk]
omit G in
theorem zdt{p m t root:Nat}{marks gs:List Nat}(G:Good p m t)(hg:∀x∈gs,x<p^m):(mdL p m t root marks gs).drop marks.length=gs:=by
 have hwl:=ydy (ycA (root:=root) (marks:=marks) G hg);unfold mdL;rw[List.drop_append_of_le_length (by rw[xA1,hwl];exact xA4 _)];rw[List.drop_eq_nil_of_le (by rw[xA1,hwl];exact xA4 _),List.nil_append]
theorem yeQ{few root n:Nat}{marks u:List Nat}(W:Whl p m t few root n marks)(hl:u.length=n)(hml:marks.length<=n)(hu:∀x∈u,x<p^m)(zu:∀k∈marks,val p m t (pw p m t root k) u=0):mdL p m t root marks (u.drop marks.length)=u:=by
 have hg:∀x∈u.drop marks.length,x<p^m:=λx hx=>hu x (List.mem_of_mem_drop hx)
 refine ygh G W (by rw[zcr G hg,List.length_drop];omega) (zdX G hg) hu (zdt G hg) (λk hk=>ydB G hg hk) zu
end
end My
end
section
-- text: WEs
namespace My
open PySem L2 Dg
noncomputable def sums(p m:Nat)(xs ys:List Nat):List Nat:=(List.range (min xs.length ys.length)).map λi=>add p m (xs.getD i 0) (ys.getD i 0)
section
variable {p m t:Nat} (G:Good p m t)
include G
theorem zeG{x:Nat}(hx:x<p^m):x∈lets p m t few↔pw p m t x (p^few)=x:=by
 unfold lets;rw[xBx,xAu,decide_eq_true_iff];exact⟨λh=>h.2,λh=>⟨hx,h⟩⟩
theorem yfz{few:Nat}(hf:m%few=0)(hf1:1<=few):(lets p m t few).length=p^few:=by
 refine Nat.le_antisymm (zhY G hf hf1) ?_;have hp:=G.hp;have hm:=G.hm;obtain⟨b,Pb⟩:=G.prim;have hq2:2<=p^few:=xAM hp (Nat.le_self_pow () p);obtain⟨kk,hkk⟩:p^few-1 ∣ p^m-1:=by
  have:=zc7 (p^few) (m/few);rw[<-Nat.pow_mul,Nat.mul_div_cancel' (xAV hf)]at this;exact this
 have h1:=yax hp hm;have hk0:0<kk:=by
  rcases xAO kk with h|h
  ·rw[h,Nat.mul_zero]at hkk;omega
  ·exact h
 have hlt:∀j,j<p^few-1->kk*j<p^m-1:=λj hj=>by
  rw[hkk,xAL (p^few-1)];exact Nat.mul_lt_mul_of_pos_left hj hk0
 have hnd:(0::(List.range (p^few-1)).map λj=>pw p m t b (kk*j)).Nodup:=by
  rw[xBk];refine⟨λh=>?_,zbd _ λi j hi hj e=>?_⟩
  ·obtain⟨j,_,e⟩:=xAe.mp h;have:=G.pw_pos Pb.pos Pb.lt (kk*j);omega
  ·have:=G.inj Pb _ _ (hlt i hi) (hlt j hj) e;exact Nat.eq_of_mul_eq_mul_left hk0 this
 have:=ydq hnd (l':=lets p m t few) λx hx=>by
  rcases xAa.mp hx with h|h
  ·rw[h,zeG G (),show p^few=(p^few-1)+1 by omega,yck hp hm]
  ·obtain⟨j,hj,rfl⟩:=xAe.mp h;rw[zeG G (zaA hp hm _ _),<-yaz hp hm,<-G.pw_mod Pb.pos Pb.lt,show kk*j*p^few=kk*j+(p^m-1)*j from ?_,Nat.add_mul_mod_self_left,G.pw_mod Pb.pos Pb.lt];rw[hkk];obtain⟨q,hq⟩:∃q,p^few=q+1:=⟨p^few-1,()⟩
   rw[hq,Nat.add_sub_cancel,Nat.mul_add,Nat.mul_one,Nat.add_comm,Nat.mul_right_comm,xAL kk q]
 simp only[xB8,xA1,xAt]at this;omega
end
noncomputable def Rws(K:PySem.W.Frag)(H:Hp):List Addr->List (List Nat)->Prop
 | [],[]=>True
 |d::ds,r::rs=>SqT K H d (r.map Vn)/\Rws K H ds rs
 |_,_=>False
section
variable {K:PySem.W.Frag} {H H':Hp}
theorem Rws.same(s:Same H H'):∀ {ds:List Addr} {rs:List (List Nat)},Rws K H ds rs->Rws K H' ds rs
 | [],[],_=>trivial
 |_::_,_::_,h=>⟨Same.tup s h.1,Rws.same s h.2⟩
 | [],_::_,h=>h.elim
 |_::_,[],h=>h.elim
theorem Rws.len:∀ {ds:List Addr} {rs:List (List Nat)},Rws K H ds rs->ds.length=rs.length
 | [],[],_=>rfl
 |_::_,_::_,h=>by rw[xB8,xB8,Rws.len h.2]
 | [],_::_,h=>h.elim
 |_::_,[],h=>h.elim
theorem Rws.app:∀ {ds es:List Addr} {rs qs:List (List Nat)},Rws K H ds rs->Rws K H es qs->Rws K H (ds++es) (rs++qs)
 | [],_,[],_,_,h=>h
 |_::_,_,_::_,_,h,g=>⟨h.1,Rws.app h.2 g⟩
 | [],_,_::_,_,h,_=>h.elim
 |_::_,_,[],_,h,_=>h.elim
theorem Rws.get:∀ {ds:List Addr} {rs:List (List Nat)} {i:Nat},Rws K H ds rs->i<rs.length->∃d,ds[i]?=some d/\SqT K H d ((rs.getD i []).map Vn)
 | [],[],_,_,hi=>absurd hi (Nat.not_lt_zero _)
 |d::_,_::_,0,h,_=>⟨d,rfl,h.1⟩
 |_::_,_::_,i+1,h,hi=>Rws.get (i:=i) h.2 (Nat.lt_of_succ_lt_succ hi)
 | [],_::_,_,h,_=>h.elim
 |_::_,[],_,h,_=>h.elim
theorem Rws.mem:∀ {ds:List Addr} {rs:List (List Nat)} {d:Addr},Rws K H ds rs->d∈ds->∃r∈rs,SqT K H d (r.map Vn)
 | [],[],_,_,hd=>nomatch hd
 |e::ds,r::rs,d,h,hd=>by
  rcases xAa.mp hd with rfl|hd
  ·exact⟨r,xAf ..,h.1⟩
  ·obtain⟨q,hq,e⟩:=Rws.mem h.2 hd;exact⟨q,xAd _ hq,e⟩
 | [],_::_,_,h,_=>h.elim
 |_::_,[],_,h,_=>h.elim
theorem Rws.perm{es ds:List Addr}(p:es.Perm ds):∀ {rs:List (List Nat)},Rws K H ds rs->∃qs:List (List Nat),qs.Perm rs/\Rws K H es qs:=by
 induction p with
 |nil=>exactλh=>⟨_,.refl _,h⟩
 |cons x _ ih=>
  intro rs h;cases rs with
  |nil=>exact h.elim
  |cons r rs=>
   obtain⟨qs,h1,h2⟩:=ih h.2;exact⟨r::qs,h1.cons _,h.1,h2⟩
 |swap x y l=>
  intro rs h;rcases rs with _ |⟨r,_ |⟨u,rs⟩⟩
  ·exact h.elim
  ·exact h.2.elim
  ·exact⟨u::r::rs,.swap ..,h.2.1,h.1,h.2.2⟩
 |trans _ _ ih1 ih2=>
  intro rs h;obtain⟨qs,h1,h2⟩:=ih2 h;obtain⟨us,h3,h4⟩:=ih1 h2;exact⟨us,h3.trans h1,h4⟩
end
theorem yaP{α:Type}{l:List α}{i:Nat}{d:α}(h:i<l.length):l.take (i+1)=l.take i++[l.getD i d]:=by
 rw[List.take_succ_eq_append_getElem h];simp[List.getD,h]
noncomputable def unG(fr k:Nat):List Nat:=List.replicate k 0++[1]++List.replicate (fr-k-1) 0
noncomputable def mulR(p m t root:Nat)(marks:List Nat)(few fr k:Nat):List (List Nat):=(lets p m t few).map λc=>zaB p m t c (mdL p m t root marks (unG fr k))
noncomputable def wdL(p m t root:Nat)(marks:List Nat)(few fr:Nat):Nat->List (List Nat)
 |0=>[mdL p m t root marks (List.replicate fr 0)]
 |k+1=>(wdL p m t root marks few fr k).flatMap λu=>(mulR p m t root marks few fr k).map (sums p m u)
theorem zcZ(p m t root:Nat)(marks:List Nat)(few fr:Nat):∀k,(wdL p m t root marks few fr k).length=(lets p m t few).length^k
 |0=>rfl
 |k+1=>by
  show(List.flatMap _ _).length=_;rw[List.length_flatMap,show(List.map (λu=>((mulR p m t root marks few fr k).map (sums p m u)).length) (wdL p m t root marks few fr k))=(wdL p m t root marks few fr k).map λ_=>(lets p m t few).length from xAE λ_ _=>by rw[xA1];exact xA1 _];rw[List.map_const',List.sum_replicate_nat,zcZ p m t root marks few fr k,xAD]
theorem zdu{fr k:Nat}(h:k<fr):(unG fr k).length=fr:=by
 unfold unG;rw[xAx,xAx,xAq,xAq,List.length_singleton];omega
theorem zgM(p m:Nat)(xs ys:List Nat):(sums p m xs ys).length=min xs.length ys.length:=by unfold sums;rw[xA1,xAt]
theorem yfH(p m t c:Nat)(xs:List Nat):(zaB p m t c xs).length=xs.length:=by unfold zaB;rw[xA1,xAt]
section
variable {p m t:Nat} (G:Good p m t)
include G
theorem zcw{fr k:Nat}:∀x∈unG fr k,x<p^m:=λx hx=>by
 have:=yax G.hp G.hm;unfold unG at hx;simp only[xAB,List.mem_replicate,xAJ]at hx;omega
theorem zhs{xs ys:List Nat}:∀x∈sums p m xs ys,x<p^m:=λx hx=>by
 obtain⟨i,_,rfl⟩:=xAe.mp hx;exact zbg G.hp G.hm _ _
end
section
variable {P:Program} {w:World} {K:PySem.W.Frag} {mg:Str->Option Value} {base:Heap} {f:Addr} {fd:FuncData} {Re By Nr Tm Nt Nl:Addr}
noncomputable def ydl(K:PySem.W.Frag):Sp:=λvs H Q _=>∃(a:Addr) (p m t few:Nat),vs=[.ref a,Vn few]/\Fld K H a p m t/\Good p m t/\few<=6/\∀r H',Same H H'->H r=none->H' r=some (.tup ((lets p m t few).map Vn))->Q (.ref r) H'
theorem zdf:yah ["field","few","q"] ["field","few"] (zae zb6):=⟨rfl,rfl,rfl,∅,rfl,∅,∅⟩
theorem yfl(B:Bl mg)(xC2:Has P w K mg base 1 "number_power" ["base","many"] yam)(xC6:Has P w K mg base 5 "power" ["field","one","many"] (ycE K))(xC0:Has P w K mg base 2 "many_things" ["field"] (zdq K))(F:Fun K "letters" "letters" zb6 f fd):FnOk P w K mg base CX0 6 f fd ["field","few"] (ydl K):=by
 refine F.ok zdf (λvs H Q E h=>?_) (λcdv A outer s H vs Q E hr h=>?_)
 ·obtain⟨a,p,m,t,few,rfl,_⟩:=h;rfl
 obtain⟨a,p,m,t,few,rfl,hF,G,hf,q⟩:=h;have hp:=G.hp;have hm:=G.hm;have hQ:=G.hq;have hp2:=p_le hp hm hQ;have hm6:=m_le hp hQ;refine⟨_,(@yaa _ _ _ _ _ (@yaf _ _ 2 _ _ _ _ zdf.nd rfl (Or.inr rfl) (@zad _ _ _ _ _ _ _ _ _ _ _ xC2 hr #[] rfl (@zaa _ _ _ _ _ (@zao _ _ _ _ _ _ _ zax (pv 0) yac (λ_ _=>rfl)) (@zaa _ _ _ _ _ (pv 1) zab ⋯) ⋯) #[] ⋯ ⋯) ⋯ (by trivial)) (@yad _ _ _ (@yai _ _ _ _ (@yaq _ _ _ _ _ _ _ _ _ yap rfl (B "tuple" #[]) zap (@zaa _ _ _ _ _ (@zaI _ _ _ _ _ _ _ ["one"] ["field","q"] [0,2] _ _ _ _ (id (α:=CSc ["field","few","q"] (zae zb6) ["one"] ["field","q"] [0,2] _) ⟨by rfl,∅,∅,∅,∅,by rfl,∅⟩) rfl (@yaG _ _ _ _ _ _ rfl (B "range" #[]) (@zaa _ _ _ _ _ (@zad _ _ _ _ _ _ _ _ _ _ _ xC0 hr #[] rfl (@zaa _ _ _ _ _ (pv 0) zab ⋯) #[] ⋯ ⋯) zab ⋯) ⋯) (λcl C fp s H=>(@yae _ _ 0 _ (by show List.Nodup (["one","field","q"]:List Str);decide +kernel) rfl (Or.inl rfl) (by trivial))) (λ_ _ _ _ _=>(@ycB _ _ _ (@zai _ _ _ _ _ _ _ _ za4 (@zad _ _ _ _ _ _ _ _ _ _ _ xC6 hr #[] rfl (@zaa _ _ _ _ _ (pv 1) (@zaa _ _ _ _ _ (pv 0) (@zaa _ _ _ _ _ (pv 2) zab ⋯) ⋯) ⋯) #[] ⋯ ⋯) (pv 0) (yaj _)))) (λ_ _ _ _ _=>(pv 0)) (by intro _;rfl)) zab ⋯) #[] #[] ⋯ ⋯)))),?_⟩;refine⟨_,rfl,a,_,_,_,rfl,rfl,hF,rfl,_,rfl,p,few,rfl,hp2,(),?_⟩;dsimp only[yaw];refine⟨_,rfl,a,p,m,t,rfl,hF,hp2,(),?_⟩;refine⟨((p^m:Nat):Int),rfl,(),(),?_⟩;refine zav zaZ (λk acc H'=>H'=H/\acc=(((List.range k).filter λx=>decide (pw p m t x (p^few)=x)).map Vn)) ⟨rfl,rfl⟩ (λ_ _ _ _ _=>trivial) ?_ ?_ ?_
 ·rintro k acc H' hk ⟨_,rfl⟩;have:=xBl (λx=>decide (pw p m t x (p^few)=x)) (List.range k);rw[xAt]at this;rw[xA1];exact zal ()
 ·rintro k acc x H' H'' hk ⟨rfl,rfl⟩ ⟨rfl,rfl⟩;have hk2:k<p^m:=by omega
  refine⟨_,rfl,_,rfl,_,rfl,a,p,m,t,k,((p^few:Nat):Int),?_,hF,G,hk2,(),?_⟩
  ·rw[show(0+(k:Int))=(k:Int) by omega];rfl
  rw[ycY G hk2];refine⟨_,rfl,rfl,_,rfl,?_⟩;have ed:decide (Vn (pw p m t k (p^few))=V.int (0+(k:Int)))=decide (pw p m t k (p^few)=k):=by
   rw[show(0+(k:Int))=(k:Int) by omega];exact decide_eq_decide.mpr ⟨λe=>Int.ofNat.inj (V.int.inj e),λe=>by rw[e]⟩
  rw[ed,xBa,List.filter_append];refine ite2 (λc=>?_) (λc=>?_)
  ·have c':pw p m t k (p^few)=k:=xAh c;refine⟨_,rfl,rfl,?_⟩;rw[xA8,show V.int (0+(k:Int))=Vn k from ydw ()];simp[c']
  ·have c':¬ pw p m t k (p^few)=k:=λh=>c (xAz h)
   refine⟨rfl,?_⟩;simp[c']
 ·rintro acc H1 ⟨rfl,rfl⟩ D hD;rw[xAm];have s1:=zac hD (.lst ((lets p m t few).map Vn));refine⟨D,_,rfl,.inl ⟨SqL.of yab,λr hr=>?_⟩⟩;exact q r _ (s1.trans (zac hr _)) (s1.free hr) yab
noncomputable def zc4(K:PySem.W.Frag):Sp:=λvs H Q _=>∃(fa a b:Addr) (p m t:Nat) (xs ys:List Nat),vs=[.ref fa,.ref a,.ref b]/\Fld K H fa p m t/\Good p m t/\SqT K H a (xs.map Vn)/\SqT K H b (ys.map Vn)/\xs.length<=100/\(∀x∈xs,x<p^m)/\(∀y∈ys,y<p^m)/\
 ∀r H',Same H H'->H r=none->H' r=some (.tup ((sums p m xs ys).map Vn))->Q (.ref r) H'
theorem zeN:yah ["field","one","other"] ["field","one","other"] (zae zbQ):=⟨rfl,rfl,rfl,∅,rfl,∅,∅⟩
theorem zev(B:Bl mg)(xC5:Has P w K mg base 1 "plus" ["field","one","other"] (zbO K))(F:Fun K "word_sum" "word_sum" zbQ f fd):FnOk P w K mg base CX0 2 f fd ["field","one","other"] (zc4 K):=by
 refine F.ok zeN (λvs H Q E h=>?_) (λcdv A outer s H vs Q E hr h=>?_)
 ·obtain⟨fa,a,b,p,m,t,xs,ys,rfl,_⟩:=h;rfl
 obtain⟨fa,a,b,p,m,t,xs,ys,rfl,hF,G,ha,hb,hl,hx,hy,q⟩:=h;have hp2:=p_le G.hp G.hm G.hq;refine⟨_,(@yad _ _ _ (@yai _ _ _ _ (@yaq _ _ _ _ _ _ _ _ _ yap rfl (B "tuple" #[]) zap (@zaa _ _ _ _ _ (@zaI _ _ _ _ _ _ _ ["a","b"] ["field"] [0] _ _ _ _ (id (α:=CSc ["field","one","other"] (zae zbQ) ["a","b"] ["field"] [0] _) ⟨by rfl,∅,∅,∅,∅,by rfl,∅⟩) rfl (@yg7 _ _ _ _ _ _ _ _ _ rfl (B "zip" #[]) (@zaa _ _ _ _ _ (pv 1) (@zaa _ _ _ _ _ (pv 2) zab ⋯) ⋯) ⋯ ⋯) (λcl C fp s H=>(@yen _ _ _ _ 2 _ K rfl rfl (@yag _ _ _ _ _ (@yae _ _ 0 _ (by show List.Nodup (["a","b","field"]:List Str);decide +kernel) rfl (Or.inl rfl) (by trivial)) (@yag _ _ _ _ _ (@yae _ _ 1 _ (by show List.Nodup (["a","b","field"]:List Str);decide +kernel) rfl (Or.inl rfl) (by trivial)) yaE ⋯) ⋯) ⋯ ⋯)) (λ_ _ _ _ _=>yaD) (λ_ _ _ _ _=>(@zad _ _ _ _ _ _ _ _ _ _ _ xC5 hr #[] rfl (@zaa _ _ _ _ _ (pv 2) (@zaa _ _ _ _ _ (pv 0) (@zaa _ _ _ _ _ (pv 1) zab ⋯) ⋯) ⋯) #[] ⋯ ⋯)) (by intro _;rfl)) zab ⋯) #[] #[] ⋯ ⋯))),?_⟩;refine⟨_,rfl,_,rfl,true,true,a,b,rfl,⟨_,ha⟩,⟨_,hb⟩,?_⟩;refine zav (zeZ (xs:=xs.map Vn) (ys:=ys.map Vn)) (λk acc H'=>Same H H'/\acc=((List.range k).map λi=>add p m (xs.getD i 0) (ys.getD i 0)).map Vn) ⟨Same.refl _,rfl⟩ (λi acc H' _ h=>⟨Same.tup h.1 ha,Same.tup h.1 hb⟩) ?_ ?_ ?_
 ·rintro k acc H' hk ⟨_,rfl⟩;rw[xA1,xA1]at hk;rw[xA1,xA1,xAt];exact zal ()
 ·rintro k acc z H1 H2 hk ⟨s1,rfl⟩ ⟨T,u,v,rfl,eu,ev,hT,rfl⟩;rw[xA1,xA1]at hk;rw[yay ()]at eu ev;cases eu;cases ev;refine⟨T,_,rfl,SqT.of yab,rfl,_,_,rfl,_,_,rfl,rfl,?_⟩;have s2:=s1.trans (zac hT (.tup [Vn (xs.getD k 0),Vn (ys.getD k 0)]));refine⟨_,rfl,_,rfl,_,rfl,fa,p,m,t,xs.getD k 0,ys.getD k 0,rfl,Same.tup s2 hF,G.hp,hp2,λr h1=>?_⟩;cases ydn G.hp G.hm (yaM hx ()) (yaM hy ()) h1;refine⟨s2,?_⟩;rw[xBa,xA8,xA8];rfl
 ·rw[xA1,xA1];rintro acc H1 ⟨s1,rfl⟩ D hD;refine⟨D,_,rfl,.inl ⟨SqL.of yab,λr hr=>?_⟩⟩;have s2:=s1.trans (zac hD (.lst ((sums p m xs ys).map Vn)));exact q r _ (s2.trans (zac hr _)) (s2.free hr) yab
noncomputable def zeK(K:PySem.W.Frag):Sp:=λvs H Q _=>∃(wh fa mk:Addr) (p m t few root n fr:Nat) (marks:List Nat),vs=[.ref wh]/\WhAt H wh fa mk few root marks/\Fld K H fa p m t/\Good p m t/\0<root/\root<p^m/\Ord p m t root n/\fr+marks.length=n/\Q (Vn fr) H
theorem yhz:yah ["wheel"] ["wheel"] (zae yfN):=⟨rfl,rfl,rfl,∅,rfl,∅,∅⟩
theorem yhL(B:Bl mg)(xBV:Has P w K mg base 5 "length" ["wheel"] (yc5 K))(F:Fun K "free" "free" yfN f fd):FnOk P w K mg base CX0 6 f fd ["wheel"] (zeK K):=by
 refine F.ok yhz (λvs H Q E h=>?_) (λcdv A outer s H vs Q E hr h=>?_)
 ·obtain⟨wh,fa,mk,p,m,t,few,root,n,fr,marks,rfl,_⟩:=h;rfl
 obtain⟨wh,fa,mk,p,m,t,few,root,n,fr,marks,rfl,hW,hF,G,h0,hq,o,hfr,q⟩:=h;refine⟨_,(@yad _ _ _ (@yai _ _ _ _ (@zag _ _ _ _ _ _ _ _ yaW (@zad _ _ _ _ _ _ _ _ _ _ _ xBV hr #[] rfl (@zaa _ _ _ _ _ (pv 0) zab ⋯) #[] ⋯ ⋯) (@zam _ _ _ _ _ _ _ _ _ zak rfl (B "len" #[]) xAR (@zaa _ _ _ _ _ (@zao _ _ _ _ _ _ _ zax (pv 0) yac (λ_ _=>rfl)) zab ⋯) #[] #[] ⋯ ⋯)))),?_⟩;refine⟨_,rfl,wh,fa,p,m,t,few,root,_,rfl,SqT.of hW.w,hF,G,h0,hq,λn' o' _=>?_⟩;cases o'.uniq o;refine⟨_,rfl,wh,_,_,.ref mk,rfl,rfl,SqT.of hW.w,rfl,mk,_,rfl,.inr (SqT.of hW.k),_,_,rfl,rfl,?_⟩;show Q (V.int ((n:Int)-(((marks.map Vn).length:Nat):Int))) H;rw[xA1,show(n:Int)-(marks.length:Int)=(fr:Int) by omega];exact q
noncomputable def yfd(K:PySem.W.Frag):Sp:=λvs H Q _=>∃(wh fa mk:Addr) (p m t few root n fr:Nat) (marks:List Nat),vs=[.ref wh]/\WhAt H wh fa mk few root marks/\Fld K H fa p m t/\Good p m t/\0<root/\root<p^m/\Ord p m t root n/\fr+marks.length=n/\few<=6/\p^few<=64/\n<=64/\Q (Vn ((p^few)^fr)) H
theorem ycQ:yah ["wheel","q"] ["wheel"] (zae zcl):=⟨rfl,rfl,rfl,∅,rfl,∅,∅⟩
theorem ygH(B:Bl mg)(xC2:Has P w K mg base 1 "number_power" ["base","many"] yam)(xBT:Has P w K mg base 6 "free" ["wheel"] (zeK K))(F:Fun K "how_many" "how_many" zcl f fd):FnOk P w K mg base CX0 7 f fd ["wheel"] (yfd K):=by
 refine F.ok ycQ (λvs H Q E h=>?_) (λcdv A outer s H vs Q E hr h=>?_)
 ·obtain⟨wh,fa,mk,p,m,t,few,root,n,fr,marks,rfl,_⟩:=h;rfl
 obtain⟨wh,fa,mk,p,m,t,few,root,n,fr,marks,rfl,hW,hF,G,h0,hq,o,hfr,hf6,hpf,hn,q⟩:=h;refine⟨_,(@yaa _ _ _ _ _ (@yaf _ _ 1 _ _ _ _ ycQ.nd rfl (Or.inl rfl) (@zad _ _ _ _ _ _ _ _ _ _ _ xC2 hr #[] rfl (@zaa _ _ _ _ _ (@zao _ _ _ _ _ _ _ zax (@zao _ _ _ _ _ _ _ zax (pv 0) yac (λ_ _=>rfl)) yac (λ_ _=>rfl)) (@zaa _ _ _ _ _ (@zao _ _ _ _ _ _ _ zax (pv 0) yac (λ_ _=>rfl)) zab ⋯) ⋯) #[] ⋯ ⋯) ⋯ (by trivial)) (@yad _ _ _ (@yai _ _ _ _ (@zad _ _ _ _ _ _ _ _ _ _ _ xC2 hr #[] rfl (@zaa _ _ _ _ _ (pv 1) (@zaa _ _ _ _ _ (@zad _ _ _ _ _ _ _ _ _ _ _ xBT hr #[] rfl (@zaa _ _ _ _ _ (pv 0) zab ⋯) #[] ⋯ ⋯) zab ⋯) ⋯) #[] ⋯ ⋯)))),?_⟩;refine⟨_,rfl,wh,_,_,.ref fa,rfl,rfl,SqT.of hW.w,rfl,fa,_,_,.int p,rfl,rfl,hF,rfl,_,rfl,wh,_,_,Vn few,rfl,rfl,SqT.of hW.w,rfl,p,few,rfl,p_le G.hp G.hm G.hq,(),?_⟩;dsimp only[yaw];refine⟨_,rfl,_,rfl,wh,fa,mk,p,m,t,few,root,n,fr,marks,rfl,hW,hF,G,h0,hq,o,hfr,?_⟩;exact⟨p^few,fr,rfl,hpf,(),q⟩
theorem zek{p m t root:Nat}{marks:List Nat}{few fr n:Nat}(G:Good p m t)(hfr:fr+marks.length=n):∀k,k<=fr->∀u∈wdL p m t root marks few fr k,u.length=n/\∀x∈u,x<p^m
 |0,_,u,hu=>by
  have uz:∀x∈List.replicate fr 0,x<p^m:=λx hx=>by rw[xBe hx];exact yao G.hp G.hm
  cases xAJ.mp hu;exact⟨by rw[zcr G uz,xAq];omega,zdX G uz⟩
 |k+1,hk,u,hu=>by
  obtain⟨v,hv,h1⟩:=List.mem_flatMap.mp hu;obtain⟨y,hy,rfl⟩:=xAe.mp h1;obtain⟨c,_,rfl⟩:=xAe.mp hy;have h2:=zek G hfr k () v hv;refine⟨?_,zhs G⟩;rw[zgM,yfH,zcr G (zcw G),zdu (),h2.1];omega
noncomputable def WQ(K:PySem.W.Frag)(wh fa mk:Addr)(p m t few root n fr:Nat)(marks:List Nat)(H:Hp):Prop:=WhAt H wh fa mk few root marks/\Fld K H fa p m t/\Good p m t/\0<root/\root<p^m/\Ord p m t root n/\fr+marks.length=n/\n<=64/\m%few=0/\1<=few/\p^few<=64
noncomputable def zfc(K:PySem.W.Frag):Sp:=λvs H Q _=>∃(wh fa mk:Addr) (p m t few root n fr:Nat) (marks:List Nat),vs=[.ref wh]/\WQ K wh fa mk p m t few root n fr marks H/\
 (p^few)^fr<=63/\∀(r:Addr) (ds:List Addr) (rs:List (List Nat)) (H':Hp),Same H H'->SqT K H' r (ds.map V.ref)->Rws K H' ds rs->rs.Perm (wdL p m t root marks few fr fr)->Q (.ref r) H'
theorem za8:yah ["wheel","field","own","many","found","place","alone","multiples"] ["wheel"] (zae ycJ):=⟨rfl,rfl,rfl,∅,rfl,∅,∅⟩
theorem zg3{tk:Tok}(m_MOST_WORDS:mg "MOST_WORDS"=some (.int 4096 tk))(B:Bl mg)(xBU:Has P w K mg base 7 "how_many" ["wheel"] (yfd K))(xBW:Has P w K mg base 6 "letters" ["field","few"] (ydl K))(xBT:Has P w K mg base 6 "free" ["wheel"] (zeK K))(xBY:Has P w K mg base 8 "made" ["wheel","given"] (zfC K))(xCk:Has P w K mg base 4 "word_times" ["field","one","word"] (ybw K))(xCj:Has P w K mg base 2 "word_sum" ["field","one","other"] (zc4 K))(F:Fun K "words" "words" ycJ f fd):FnOk P w K mg base CX0 9 f fd ["wheel"] (zfc K):=by
 refine F.ok za8 (λvs H Q E h=>?_) (λcdv A outer s H vs Q E hr h=>?_)
 ·obtain⟨wh,fa,mk,p,m,t,few,root,n,fr,marks,rfl,_⟩:=h;rfl
 obtain⟨wh,fa,mk,p,m,t,few,root,n,fr,marks,rfl,⟨hW,hF,G,h0,hq,o,hfr,hn,hmf,hf1,hpf⟩,hz,qQ⟩:=h;have hp:=G.hp;have hm:=G.hm;have hQ:=yax hp hm;have hm6:=m_le hp G.hq;have hf6:few<=6:=xAM (Nat.le_of_dvd () (xAV hmf)) hm6;refine⟨_,(@yaa _ _ _ _ _ (@yaS _ _ _ _ _ _ _ _ (@zai _ _ _ _ _ _ _ _ yb3 (@zad _ _ _ _ _ _ _ _ _ _ _ xBU hr #[] rfl (@zaa _ _ _ _ _ (pv 0) zab ⋯) #[] ⋯ ⋯) (@yhR _ _ _ _ _ rfl m_MOST_WORDS (zfb _ _) #[]) (yaj _)) (@yad _ _ _ ycH) zas) (@yaa _ _ _ _ _ (@yaf _ _ 1 _ _ _ _ za8.nd rfl (Or.inr rfl) (@zao _ _ _ _ _ _ _ zax (pv 0) yac (λ_ _=>rfl)) ⋯ (by trivial)) (@yaa _ _ _ _ _ (@yaf _ _ 2 _ _ _ _ za8.nd rfl (Or.inl rfl) (@zad _ _ _ _ _ _ _ _ _ _ _ xBW hr #[] rfl (@zaa _ _ _ _ _ (pv 1) (@zaa _ _ _ _ _ (@zao _ _ _ _ _ _ _ zax (pv 0) yac (λ_ _=>rfl)) zab ⋯) ⋯) #[] ⋯ ⋯) ⋯ (by trivial)) (@yaa _ _ _ _ _ (@yaf _ _ 3 _ _ _ _ za8.nd rfl (Or.inl rfl) (@zad _ _ _ _ _ _ _ _ _ _ _ xBT hr #[] rfl (@zaa _ _ _ _ _ (pv 0) zab ⋯) #[] ⋯ ⋯) ⋯ (by trivial)) (@yaa _ _ _ _ _ (@yaf _ _ 4 _ _ _ _ za8.nd rfl (Or.inl rfl) (@yaI _ _ _ _ (@zaa _ _ _ _ _ (@zad _ _ _ _ _ _ _ _ _ _ _ xBY hr #[] rfl (@zaa _ _ _ _ _ (pv 0) (@zaa _ _ _ _ _ (@zag _ _ _ _ _ _ _ _ ydN (@zaV _ _ _ _ _ (@zaa _ _ _ _ _ yac zab ⋯)) (pv 3)) zab ⋯) ⋯) #[] ⋯ ⋯) zab ⋯)) ⋯ (by trivial)) (@yaa _ _ _ _ _ (@zaF _ _ _ _ _ _ _ _ xAi rfl (@yaG _ _ _ _ _ _ rfl (B "range" #[]) (@zaa _ _ _ _ _ (pv 3) zab ⋯) ⋯) (@yae _ _ 5 _ za8.nd rfl (Or.inl rfl) (by trivial)) (@yaa _ _ _ _ _ (@yaf _ _ 6 _ _ _ _ za8.nd rfl (Or.inr rfl) (@zad _ _ _ _ _ _ _ _ _ _ _ xBY hr #[] rfl (@zaa _ _ _ _ _ (pv 0) (@zaa _ _ _ _ _ (@zag _ _ _ _ _ _ _ _ zco (@zag _ _ _ _ _ _ _ _ zco (@zag _ _ _ _ _ _ _ _ ydN (@zaV _ _ _ _ _ (@zaa _ _ _ _ _ yac zab ⋯)) (pv 5)) (@zaV _ _ _ _ _ (@zaa _ _ _ _ _ yac zab ⋯))) (@zag _ _ _ _ _ _ _ _ ydN (@zaV _ _ _ _ _ (@zaa _ _ _ _ _ yac zab ⋯)) (@zag _ _ _ _ _ _ _ _ yaW (@zag _ _ _ _ _ _ _ _ yaW (pv 3) (pv 5)) yac))) zab ⋯) ⋯) #[] ⋯ ⋯) ⋯ (by trivial)) (@yaa _ _ _ _ _ (@yaf _ _ 7 _ _ _ _ za8.nd rfl (Or.inr rfl) (@zaI _ _ _ _ _ _ _ ["letter"] ["field","alone"] [1,6] _ _ _ _ (id (α:=CSc ["wheel","field","own","many","found","place","alone","multiples"] (zae ycJ) ["letter"] ["field","alone"] [1,6] _) ⟨by rfl,∅,∅,∅,∅,by rfl,∅⟩) rfl (@yb9 _ _ _ _ (pv 2)) (λcl C fp s H=>(@yae _ _ 0 _ (by show List.Nodup (["letter","field","alone"]:List Str);decide +kernel) rfl (Or.inl rfl) (by trivial))) (λ_ _ _ _ _=>yaD) (λ_ _ _ _ _=>(@zad _ _ _ _ _ _ _ _ _ _ _ xCk hr #[] rfl (@zaa _ _ _ _ _ (pv 1) (@zaa _ _ _ _ _ (pv 0) (@zaa _ _ _ _ _ (pv 2) zab ⋯) ⋯) ⋯) #[] ⋯ ⋯)) (by intro _;rfl)) ⋯ (by trivial)) (@yad _ _ _ (zgV (i:=4) za8.nd rfl (Or.inl rfl) (tg:=["word","multiple"]) (cp:=["multiples","field"]) (ci:=[7,1]) (id (α:=CSc ["wheel","field","own","many","found","place","alone","multiples"] (zae ycJ) ["word","multiple"] ["multiples","field"] [7,1] _) ⟨by rfl,∅,∅,∅,∅,by rfl,∅⟩) rfl (ybc (pv 4)) (λcl C fp s H=>(yae (i:=0) (by show List.Nodup (["word","multiple","multiples","field"]:List Str);decide +kernel) rfl (Or.inl rfl))) (λ_ _ _ _ _=>(zgH (K:=K) rfl (pv 2))) (λcl C fp s H=>(yae (i:=1) (by show List.Nodup (["word","multiple","multiples","field"]:List Str);decide +kernel) rfl (Or.inl rfl))) (λ_ _ _ _ _=>(zad xCj hr #[] rfl (zaa (pv 3) (zaa (pv 0) (zaa (pv 1) zab))))))))) (by intro _;rfl)) (@yad _ _ _ (@yai _ _ _ _ (@yaq _ _ _ _ _ _ _ _ _ yap rfl (B "tuple" #[]) zap (@zaa _ _ _ _ _ (@zam _ _ _ _ _ _ _ _ _ ydR rfl (B "sorted" #[]) zbp (@zaa _ _ _ _ _ (pv 4) zab ⋯) #[] #[] ⋯ ⋯) zab ⋯) #[] #[] ⋯ ⋯))))))))),?_⟩
 refine⟨_,rfl,wh,fa,mk,p,m,t,few,root,n,fr,marks,rfl,hW,hF,G,h0,hq,o,hfr,hf6,hpf,hn,?_⟩;refine⟨_,_,rfl,rfl,_,rfl,?_⟩;refine ite2 (λc=>absurd (xAh c) ()) (λc=>?_);dsimp only[zeh,yaw];refine⟨_,rfl,wh,_,_,.ref fa,rfl,rfl,SqT.of hW.w,rfl,?_⟩;dsimp only[yaw];refine⟨_,rfl,_,rfl,wh,_,_,Vn few,rfl,rfl,SqT.of hW.w,rfl,fa,p,m,t,few,rfl,hF,G,hf6,λow H1 s1 now eow=>?_⟩;have hW1:=hW.same s1;have hF1:=Same.tup s1 hF;dsimp only[yaw];refine⟨_,rfl,wh,fa,mk,p,m,t,few,root,n,fr,marks,rfl,hW1,hF1,G,h0,hq,o,hfr,?_⟩;dsimp only[yaw];refine⟨_,rfl,szl 1,λz hz1=>?_⟩;have t1:=zac hz1 (.tup [.int 0]);refine⟨_,rfl,ydr (SqT.of yab) () λz2 H2 t2 hz2=>?_⟩;have s2:=s1.trans (t1.trans t2);refine⟨wh,fa,mk,z2,p,m,t,few,root,marks,_,rfl,hW.same s2,Same.tup s2 hF,G,h0,hq,(),hz2,by rw[xAq];omega,λx hx=>by rw[xBe hx];exact yao hp hm,λw0 H3 t3 hw0=>?_⟩;have s3:=s2.trans t3;refine⟨szl 1,λD hD=>?_⟩;have t4:=zac hD (.lst [.ref w0]);have s4:=s3.trans t4;dsimp only[yaw];have ll:=yfz G hmf hf1;have wl:∀k,k<=fr->(wdL p m t root marks few fr k).length<=63:=λk hk=>by
  rw[zcZ,ll];exact xAM (xB6 (xB7 ()) hk) hz
 have uz:∀x∈List.replicate fr 0,x<p^m:=λx hx=>by rw[xBe hx];exact yao hp hm
 have wr:∀k,k<=fr->∀u∈wdL p m t root marks few fr k,u.length=n/\∀x∈u,x<p^m:=zek G hfr;refine⟨_,rfl,(fr:Int),rfl,(),(),?_⟩;refine yaK (zaZ (lo:=0) (n:=((fr:Nat):Int).toNat)) (λk σ H'=>Same H H'/\H' ow=some (.tup ((lets p m t few).map Vn))/\∃(D:Addr) (ds:List Addr) (s5 s6 s7:Option V),H' D=some (.lst (ds.map V.ref))/\Rws K H' ds (wdL p m t root marks few fr k)/\σ=[some (.ref wh),some (.ref fa),some (.ref ow),some (Vn fr),some (.ref D),s5,s6,s7]) ⟨s4,t4 _ _ (t3 _ _ (t2 _ _ (t1 _ _ eow))),D,[w0],none,none,none,yab,⟨Same.tup t4 hw0,trivial⟩,rfl⟩ (λ_ _ _ _ _=>trivial) ?_ ?_
 ·rintro k x σ H5 H5' hk ⟨s5,e5,D,ds,v5,v6,v7,eD,hR,rfl⟩ ⟨rfl,rfl⟩;rw[xAm]at hk;rw[show V.int (0+(k:Int))=Vn k from ydw (Int.zero_add _)];dsimp only[yaw];refine⟨_,rfl,szl 1,λa1 ha1=>?_⟩;have x1:=zac ha1 (.tup [.int 0]);refine⟨_,rfl,ydr (SqT.of yab) () λa2 H6 x2 ha2=>?_⟩;refine⟨szl 1,λa3 ha3=>?_⟩;have x3:=zac ha3 (.tup [.int 1]);refine zcU (Same.tup x3 ha2) (SqT.of yab) (by rw[xA1,xAq,List.length_singleton];omega) λa4 H7 x4 ha4=>?_
  refine⟨szl 1,λa5 ha5=>?_⟩;have x5:=zac ha5 (.tup [.int 0]);refine⟨_,rfl,_,rfl,_,_,rfl,rfl,_,_,rfl,rfl,?_⟩;rw[show((λi j:Int=>V.int (i-j)) ((fr:Int)-(k:Int)) 1)=Vn (fr-k-1) from ydw ()];refine ydr (SqT.of yab) () λa6 H8 x6 ha6=>?_
  refine zcU (Same.tup (x5.trans x6) ha4) ha6 (by rw[xAx,xA1,xAq,xA1,xAq];show k+1+_<=_;omega) λa7 H9 x7 ha7=>?_
  have s9:=s5.trans ((x1.trans x2).trans ((x3.trans x4).trans ((x5.trans x6).trans x7)));have y9:=(x1.trans x2).trans ((x3.trans x4).trans ((x5.trans x6).trans x7));have eu:(List.replicate k 0).map Vn++[.int 1]++(List.replicate (fr-k-1) 0).map Vn=(unG fr k).map Vn:=by
   unfold unG;rw[xA8,xA8];rfl
  rw[eu]at ha7;refine⟨wh,fa,mk,a7,p,m,t,few,root,marks,unG fr k,rfl,hW.same s9,Same.tup s9 hF,G,h0,hq,(),ha7,by rw[zdu hk];omega,zcw G,λal H10 x10 hal=>?_⟩;have s10:=s9.trans x10;have hal1:(mdL p m t root marks (unG fr k)).length=n:=by rw[zcr G (zcw G),zdu hk];omega
  have hal2:=zdX (root:=root) (marks:=marks) G (zcw (fr:=fr) (k:=k) G);dsimp only[yaw];have hF10:=Same.tup s10 hF;have eow10:=x10 _ _ (y9 _ _ e5);refine⟨_,rfl,ow,rfl,⟨_,SqT.of eow10⟩,?_⟩;refine zav (za9 (xs:=(lets p m t few).map Vn)) (λi acc H'=>Same H10 H'/\∃ms:List Addr,acc=ms.map V.ref/\Rws K H' ms ((mulR p m t root marks few fr k).take i)) ⟨Same.refl _,[],rfl,trivial⟩ (λi acc H' _ h=>SqT.of (h.1 _ _ eow10)) ?_ ?_ ?_
  ·rintro i acc H' hi ⟨_,ms,rfl,hms⟩;have h1:=hms.len;rw[xAH]at h1;rw[xA1,ll]at hi;rw[xA1];exact zal ()
  ·rintro i acc z H11 H12 hi ⟨s11,ms,rfl,hms⟩ ⟨rfl,ez⟩;rw[xA1]at hi;rw[yay hi]at ez;cases ez;refine⟨_,rfl,_,rfl,_,rfl,fa,al,p,m,t,(lets p m t few).getD i 0,mdL p m t root marks (unG fr k),rfl,Same.tup s11 hF10,G,yaM zdy hi,Same.tup s11 hal,(),hal2,λr H13 s13 _ er=>?_⟩;refine⟨s11.trans s13,ms++[r],by rw[xA8];rfl,?_⟩;rw[yaP (d:=[]) (by unfold mulR;rw[xA1];exact hi)];refine(hms.same s13).app ⟨?_,trivial⟩;have e:(mulR p m t root marks few fr k).getD i []=zaB p m t ((lets p m t few).getD i 0) (mdL p m t root marks (unG fr k)):=by
    unfold mulR;simp[List.getD,hi]
   rw[e];exact SqT.of er
  rw[xA1];rintro acc H11 ⟨s11,ms,rfl,hms⟩ M hM;rw[List.take_of_length_le (by unfold mulR;rw[xA1];exact xA4 _)]at hms;have x12:=zac hM (.lst (ms.map V.ref));have s12:=s10.trans (s11.trans x12);have z12:=(y9.trans x10).trans (s11.trans x12);dsimp only[yaw];have eM:upd H11 M (.lst (ms.map V.ref)) M=some (.lst (ms.map V.ref)):=yab;have hms12:=hms.same x12;have eow12:=z12 _ _ e5;have eD12:=z12 _ _ eD;have hR12:=hR.same z12;generalize upd H11 M (.lst (ms.map V.ref))=H12 at x12 s12 z12 eM hms12 eow12 eD12 hR12 ⊢;refine⟨_,rfl,D,rfl,⟨_,SqL.of eD12⟩,?_⟩;have hRl:=hR12.len;have hml:=hms12.len;have hmul:(mulR p m t root marks few fr k).length=(lets p m t few).length:=xA1 _;have sz:∀i j:Nat,i<(wdL p m t root marks few fr k).length->j<(lets p m t few).length->i*(lets p m t few).length+j<4096:=λi j hi hj=>by
   have h1:=wl (k+1) hk;have h2:(wdL p m t root marks few fr (k+1)).length=(wdL p m t root marks few fr k).length*(lets p m t few).length:=by rw[zcZ,zcZ,xAD]
   have h3:(i+1)*(lets p m t few).length<=(wdL p m t root marks few fr k).length*(lets p m t few).length:=Nat.mul_le_mul_right _ hi;rw[Nat.succ_mul]at h3;omega
  have fl:∀i,i<=(wdL p m t root marks few fr k).length->(((wdL p m t root marks few fr k).take i).flatMap λu=>(mulR p m t root marks few fr k).map (sums p m u)).length=i*(lets p m t few).length:=λi hi=>by
   rw[List.length_flatMap,show(List.map (λu=>((mulR p m t root marks few fr k).map (sums p m u)).length) ((wdL p m t root marks few fr k).take i))=((wdL p m t root marks few fr k).take i).map λ_=>(lets p m t few).length from xAE λ_ _=>by rw[xA1];exact hmul];rw[List.map_const',List.sum_replicate_nat,xAH,Nat.min_eq_left hi]
  refine yf1 (yaT (xs:=ds.map V.ref)) (In:=λacc N σ H=>tIn _ _ _ acc N σ H) (λi acc H'=>Same H12 H'/\∃es:List Addr,acc=es.map V.ref/\Rws K H' es (((wdL p m t root marks few fr k).take i).flatMap λu=>(mulR p m t root marks few fr k).map (sums p m u))) ⟨Same.refl _,[],rfl,trivial⟩ (λi acc H' _ h=>SqL.of (h.1 _ _ eD12)) ?_ ?_
  ·rintro i acc x H13 H13' hi ⟨s13,es,rfl,hes⟩ ⟨rfl,ez⟩;rw[xA1,hRl]at hi;obtain⟨d,ed,hd⟩:=hR12.get hi;rw[xA9,ed]at ez;cases ez;obtain⟨u,eu⟩:∃u,u=(wdL p m t root marks few fr k).getD i []:=⟨_,rfl⟩
   rw[<-eu]at hd;have hu:=wr k () u (by rw[eu];simp[List.getD,hi]);have hmsl:=fl i (Nat.le_of_lt hi);rw[yaP (d:=[]) hi,List.flatMap_append,<-eu,List.flatMap_singleton];generalize (((wdL p m t root marks few fr k).take i).flatMap λu=>(mulR p m t root marks few fr k).map (sums p m u))=prev at hes hmsl ⊢;refine⟨_,rfl,M,rfl,⟨_,SqL.of (s13 _ _ eM)⟩,?_⟩;refine yia (yaT (xs:=ms.map V.ref)) (λj σ acc H'=>Same H12 H'/\(∃es:List Addr,acc=es.map V.ref/\Rws K H' es (prev++((mulR p m t root marks few fr k).take j).map (sums p m u)))/\∃sj,σ=[some (.ref d),sj,some (.ref M),some (.ref fa)]) ⟨s13,⟨es,rfl,by rw[List.take_zero,List.map_nil,List.append_nil];exact hes⟩,none,rfl⟩ (λj σ acc H' _ h=>SqL.of (h.1 _ _ eM)) ?_ ?_ ?_
   ·rintro j σ acc H' hj ⟨_,⟨es,rfl,he⟩,_⟩;have h1:=he.len;rw[xAx,xA1,xAH]at h1;rw[xA1,hml,hmul]at hj;have:=sz i j hi hj;rw[xA1,h1,hmsl];exact szl _ (show i*(lets p m t few).length+min j _+1<=100000 by omega)
   ·rintro j σ acc x Ha Hb hj ⟨sa,⟨es,rfl,he⟩,sj,rfl⟩ ⟨rfl,ez⟩;rw[xA1,hml]at hj;obtain⟨d2,ed2,hd2⟩:=hms12.get hj;rw[xA9,ed2]at ez;cases ez;have e2:(mulR p m t root marks few fr k).getD j []=zaB p m t ((lets p m t few).getD j 0) (mdL p m t root marks (unG fr k)):=by
     unfold mulR;simp[List.getD,hmul ▸ hj]
    refine⟨_,rfl,_,rfl,_,rfl,fa,d,d2,p,m,t,u,(mulR p m t root marks few fr k).getD j [],rfl,Same.tup (s12.trans sa) hF,G,Same.tup sa hd,Same.tup sa hd2,(),hu.2,by rw[e2];exact ybQ G _ _,λr Hc sc _ er=>?_⟩;refine⟨sa.trans sc,⟨es++[r],by rw[xA8];rfl,?_⟩,_,rfl⟩;rw[yaP (d:=[]) hj,xA8,<-List.append_assoc];exact(he.same sc).app ⟨SqT.of er,trivial⟩
   ·rintro σ acc Ha ⟨sa,⟨es,rfl,he⟩,_⟩;rw[xA1,hml,xAX]at he;exact⟨sa,es,rfl,he⟩
  ·rintro acc H13 ⟨s13,es,rfl,hes⟩ D2 hD2;rw[xA1,hRl,xAX]at hes;have x14:=zac hD2 (.lst (es.map V.ref));exact⟨s12.trans (s13.trans x14),x14 _ _ (s13 _ _ eow12),D2,es,_,_,_,yab,hes.same x14,rfl⟩
 ·rw[xAm];rintro σ H5 ⟨s5,e5,D,ds,v5,v6,v7,eD,hR,rfl⟩;refine⟨_,rfl,D,ds,rfl,by rw[hR.len];exact Nat.lt_succ_of_le (wl fr (xA4 _)),SqL.of eD,λd hd=>?_,λl es hl pe=>?_⟩
  ·obtain⟨r,hr,h⟩:=hR.mem hd;refine⟨r.map Int.ofNat,?_,by rw[List.map_map];exact h⟩;rw[xA1,(wr fr (xA4 _) r hr).1];exact o.pos
  ·obtain⟨qs,pq,hq2⟩:=hR.perm pe;have x6:=zac hl (.lst (es.map V.ref));refine⟨l,_,rfl,.inl ⟨SqL.of yab,λr hr=>?_⟩⟩;have x7:=x6.trans (zac hr (.tup (es.map V.ref)));exact qQ r es qs _ (s5.trans x7) (SqT.of yab) (hq2.same x7) pq
end
end My
end
section
-- text: Q94a
namespace My
open PySem L2 Dg
theorem Tab.fld{K:PySem.W.Frag}{H:Hp}{tb fa pa la:Addr}{p m t b:Nat}(T:Tab H tb fa pa la p m t b):Fld K H fa p m t:=SqT.of T.f
theorem zgO{K:PySem.W.Frag}{H H':Hp}{a:Addr}{xs:List V}(e:Same H H')(h:SqL K H a xs):SqL K H' a xs:=by
 rcases h with(h |⟨o,h⟩)|h
 ·exact .inl (.inl (e _ _ h))
 ·exact .inl (.inr ⟨o,e _ _ h⟩)
 ·exact .inr h
theorem zed{xs ys:List Nat}:(xs.map λn:Nat=>(n:Int))=(ys.map λn:Nat=>(n:Int))↔xs=ys:=by
 constructor
 ·intro h;have:=congrArg (List.map Int.toNat) h;rw[List.map_map,List.map_map]at this;have e:(Int.toNat ∘ λn:Nat=>(n:Int))=id:=rfl;rw[e,List.map_id,List.map_id]at this;exact this
 ·intro h;rw[h]
noncomputable def ixB(n i k:Nat):Nat:=(k+n-i)%n
theorem yh4{n i k:Nat}(h:0<n):ixB n i k<n:=xAC _ h
theorem ye8{n i k:Nat}(hi:i<n)(hk:k<n):ixB n i k=if i<=k then k-i else k+n-i:=by
 unfold ixB;split
 ·rw[show k+n-i=(k-i)+n by omega,Nat.add_mod_right,xAW ()]
 ·rw[xAW ()]
theorem yfM{n i j k:Nat}(hi:i<n)(hj:j<n)(hk:k<n):ixB n i k=j↔(i+j)%n=k:=by
 have e2:(i+j)%n=if i+j<n then i+j else i+j-n:=by
  split
  ·rw[xAW ()]
  ·rw[Nat.mod_eq_sub_mod (),xAW ()]
 rw[ye8 hi hk,e2];split <;> split <;> omega
noncomputable def rpS(p m t:Nat)(xs ys:List Nat)(i k:Nat):Nat:=sumF p m i λi'=>mul p m t (xs.getD i' 0) (ys.getD (ixB xs.length i' k) 0)
noncomputable def rp(p m t:Nat)(xs ys:List Nat):List Nat:=(List.range xs.length).map λk=>rpS p m t xs ys xs.length k
noncomputable def rpP(p m t:Nat)(xs ys:List Nat)(i j:Nat):List Nat:=(List.range xs.length).map λk=>add p m (rpS p m t xs ys i k) (if ixB xs.length i k<j then mul p m t (xs.getD i 0) (ys.getD (ixB xs.length i k) 0) else 0)
theorem ygQ{n:Nat}{f:Nat->Nat}{i:Nat}(h:i<n):((List.range n).map f).getD i 0=f i:=by
 rw[xAn,xA9,xB2 h];rfl
section
variable {p m t:Nat} (hp:2<=p) (hm:1<=m)
include hp hm
theorem zgI(xs ys:List Nat)(i:Nat):rpP p m t xs ys i 0=(List.range xs.length).map λk=>rpS p m t xs ys i k:=by
 refine xAE λk _=>?_
 rw[if_neg ()];exact add_zero hp hm (ycb hp hm _ _)
theorem yhH(xs ys:List Nat){i:Nat}(hi:i<xs.length):rpP p m t xs ys i xs.length=(List.range xs.length).map λk=>rpS p m t xs ys (i+1) k:=by
 refine xAE λk _=>?_
 rw[if_pos (yh4 ())];rfl
theorem zcN(xs ys:List Nat)(i j:Nat):(rpP p m t xs ys i j).length=xs.length:=by simp[rpP]
omit hp hm in
theorem zeM(xs ys:List Nat)(i j k:Nat)(h:k<(rpP p m t xs ys i j).length):(rpP p m t xs ys i j)[k]=add p m (rpS p m t xs ys i k) (if ixB xs.length i k<j then mul p m t (xs.getD i 0) (ys.getD (ixB xs.length i k) 0) else 0):=by simp[rpP]
theorem yhm(xs ys:List Nat){i j:Nat}(hi:i<xs.length)(hj:j<xs.length):(rpP p m t xs ys i j).set ((i+j)%xs.length) (add p m ((rpP p m t xs ys i j).getD ((i+j)%xs.length) 0) (mul p m t (xs.getD i 0) (ys.getD j 0)))=rpP p m t xs ys i (j+1):=by
 have hn:(i+j)%xs.length<xs.length:=xAC _ ();have hx:=(yfM hi hj hn).mpr rfl;have hl:=zcN (t:=t) hp hm xs ys i j;have e0:(rpP p m t xs ys i j).getD ((i+j)%xs.length) 0=rpS p m t xs ys i ((i+j)%xs.length):=by
  have:=zeM (p:=p) (m:=m) (t:=t) xs ys i j ((i+j)%xs.length) ();rw[xAn,xA7 ()];show(rpP p m t xs ys i j)[_]=_;rw[this,hx,if_neg ()];exact add_zero hp hm (ycb hp hm _ _)
 rw[e0];refine xAS (by simp[zcN hp hm]) λk h1 h2=>?_
 have h3:k<xs.length:=by rw[zcN hp hm]at h2;exact h2
 rw[List.getElem_set,zeM xs ys i (j+1)];by_cases e:(i+j)%xs.length=k
 ·rw[if_pos e,e,show ixB xs.length i k=j from e ▸ hx,if_pos ()]
 ·rw[if_neg e,zeM xs ys i j];have e2:ixB xs.length i k≠j:=λh=>e ((yfM hi hj h3).mp h)
  by_cases h3:ixB xs.length i k<j
  ·rw[if_pos h3,if_pos ()]
  ·rw[if_neg h3,if_neg ()]
theorem zgw(xs ys:List Nat):∀x∈rp p m t xs ys,x<p^m:=λx hx=>by
 obtain⟨k,_,rfl⟩:=xAe.mp hx;exact ycb hp hm _ _
end
section
variable {p m t:Nat} (G:Good p m t)
include G
theorem ycm(f:Nat->Nat)(hf:∀i,f i<p^m)(a:Nat):∀b,sumF p m (a+b) f=add p m (sumF p m a f) (sumF p m b λi=>f (a+i))
 |0=>by
  show sumF p m a f=add p m (sumF p m a f) 0;rw[add_zero G.hp G.hm (ycb G.hp G.hm _ _)]
 |b+1=>by
  show add p m (sumF p m (a+b) f) (f (a+b))=add p m (sumF p m a f) (add p m (sumF p m b λi=>f (a+i)) (f (a+b)));rw[ycm f hf a b,add_assoc G.hp G.hm]
theorem zhU{n i:Nat}(hi:i<n)(g:Nat->Nat)(hg:∀j,g j<p^m):sumF p m n (λk=>g (ixB n i k))=sumF p m n g:=by
 have e1:=ycm G (λk=>g (ixB n i k)) (λk=>hg _) i (n-i);have e2:=ycm G g hg (n-i) i;rw[show i+(n-i)=n by omega]at e1;rw[show n-i+i=n by omega]at e2;rw[e1,e2,add_comm G.hp G.hm];refine congr (congrArg (add p m) (yal G.hp G.hm _ λk hk=>?_)) (yal G.hp G.hm _ λk hk=>?_)
 ·rw[ye8 hi (),if_pos (),Nat.add_sub_cancel_left]
 ·rw[ye8 hi (),if_neg (),show n-i+k=k+n-i by omega]
theorem yeb{y n:Nat}{xs ys:List Nat}(hy:y<p^m)(h1:pw p m t y n=1)(lx:xs.length=n)(ly:ys.length=n)(hx:∀x∈xs,x<p^m)(hyy:∀x∈ys,x<p^m):val p m t y (rp p m t xs ys)=mul p m t (val p m t y xs) (val p m t y ys):=by
 have hp:=G.hp;have hm:=G.hm;have lr:(rp p m t xs ys).length=n:=by simp[rp,lx]
 rw[zaP hp hm hy _ (zgw hp hm xs ys),lr];have e1:sumF p m n (λk=>mul p m t ((rp p m t xs ys).getD k 0) (pw p m t y k))=sumF p m n λk=>sumF p m n λi=>mul p m t (mul p m t (xs.getD i 0) (ys.getD (ixB n i k) 0)) (pw p m t y k):=by
  refine yal hp hm _ λk hk=>?_
  have:(rp p m t xs ys).getD k 0=rpS p m t xs ys n k:=by
   unfold rp;rw[rget (),lx]
  rw[this];unfold rpS;rw[<-yaY hp hm,lx]
 rw[e1,ye5 hp hm];have e2:∀i,i<n->sumF p m n (λk=>mul p m t (mul p m t (xs.getD i 0) (ys.getD (ixB n i k) 0)) (pw p m t y k))=mul p m t (mul p m t (xs.getD i 0) (pw p m t y i)) (val p m t y ys):=λi hi=>by
  have e3:sumF p m n (λk=>mul p m t (mul p m t (xs.getD i 0) (ys.getD (ixB n i k) 0)) (pw p m t y k))=sumF p m n λk=>(λj=>mul p m t (mul p m t (ys.getD j 0) (pw p m t y j)) (mul p m t (xs.getD i 0) (pw p m t y i))) (ixB n i k):=by
   refine yal hp hm _ λk hk=>?_
   have ek:pw p m t y k=mul p m t (pw p m t y i) (pw p m t y (ixB n i k)):=by
    rw[<-ya6 hp hm,ye8 hi hk];by_cases c:i<=k
    ·rw[if_pos c,show i+(k-i)=k by omega]
    ·rw[if_neg c,show i+(k+n-i)=k+n by omega,ya6 hp hm,h1,mul_one hp hm (zaA hp hm _ _)]
   show _=mul p m t (mul p m t (ys.getD (ixB n i k) 0) (pw p m t y (ixB n i k))) (mul p m t (xs.getD i 0) (pw p m t y i));rw[ek];generalize xs.getD i 0=a;generalize ys.getD (ixB n i k) 0=b;generalize pw p m t y (ixB n i k)=c;generalize pw p m t y i=d;rw[mul_comm hp hm a b,mul_assoc hp hm,mul_assoc hp hm,<-mul_assoc hp hm a,mul_comm hp hm (mul p m t a d) c]
  rw[e3,zhU G hi (λj=>mul p m t (mul p m t (ys.getD j 0) (pw p m t y j)) (mul p m t (xs.getD i 0) (pw p m t y i))) (λj=>zaw hp hm _ _),yaY hp hm,zaP hp hm hy ys hyy,ly,mul_comm hp hm]
 rw[yal hp hm _ e2,yaY hp hm,zaP hp hm hy xs hx,lx]
omit G in
noncomputable def preQ(p few m n j:Nat):Nat:=j*(p^few)^(m/few-1)%n
theorem yfL{few root n j:Nat}{marks:List Nat}(W:Whl p m t few root n marks)(hj:j∈marks):∀k,j*(p^few)^k%n∈marks
 |0=>by rw[Nat.pow_zero,Nat.mul_one,xAW (W.lt j hj)];exact hj
 |k+1=>by
  have:=W.closed _ (yfL W hj k);rw[Nat.mod_mul_mod,Nat.mul_assoc,<-xAD]at this;exact this
theorem yff{few root n j:Nat}{marks:List Nat}(W:Whl p m t few root n marks)(hj:j<n):preQ p few m n j*p^few%n=j:=by
 have he:=W.ord.round G W.r0 W.rq W.fewm W.few1;have he1:1<=m/few:=Nat.div_pos (Nat.le_of_dvd (by have:=G.hm;omega) (xAV W.fewm)) W.few1;unfold preQ;rw[Nat.mod_mul_mod,Nat.mul_assoc,<-xAD,show(m/few-1).succ=m/few by omega,Nat.mul_mod,he,<-Nat.mul_mod,Nat.mul_one,xAW hj]
theorem yfC{few root n j:Nat}{marks:List Nat}(W:Whl p m t few root n marks)(hj:j<n):preQ p few m n j∈marks↔j∈marks:=by
 constructor
 ·intro h;have:=W.closed _ h;rw[yff G W hj]at this;exact this
 ·intro h;exact yfL G W h _
theorem yhc{few root n j:Nat}{marks:List Nat}(W:Whl p m t few root n marks)(hj:j<n):pw p m t (pw p m t root (preQ p few m n j)) (p^few)=pw p m t root j:=by
 have hp:=G.hp;have hm:=G.hm;have pm:∀a,pw p m t root (a%n)=pw p m t root a:=λa=>by
  conv=>rhs;rw[<-Nat.div_add_mod a n,ya6 hp hm,yaz hp hm,W.ord.one,za7 hp hm,one_mul hp hm (zaA hp hm _ _)]
 rw[<-yaz hp hm,<-pm,yff G W hj]
omit G in
noncomputable def ownV(n:Nat)(marks:List Nat):List Nat:=(List.range n).map λi=>if i∈marks then 0 else 1
omit G in
theorem yce(n:Nat)(marks:List Nat):(ownV n marks).length=n:=by simp[ownV]
theorem zfz(n:Nat)(marks:List Nat):∀x∈ownV n marks,x<p^m:=λx hx=>by
 obtain⟨i,_,rfl⟩:=xAe.mp hx;split
 ·exact yao G.hp G.hm
 ·exact yax G.hp G.hm
end
section
variable {P:Program} {w:World} {K:PySem.W.Frag} {mg:Str->Option Value} {base:Heap} {f:Addr} {fd:FuncData}
noncomputable def zgp(K:PySem.W.Frag):Sp:=λvs H Q _=>∃(fa a:Addr) (p m t r:Nat) (xs:List Nat),vs=[.ref fa,Vn r,.ref a]/\Fld K H fa p m t/\Good p m t/\0<r/\r<p^m/\SqT K H a (xs.map Vn)/\xs.length<=100/\(∀x∈xs,x<p^m)/\
 ∀d H',Same H H'->H d=none->H' d=some (.tup ((dft p m t r xs).map Vn))->Q (.ref d) H'
theorem zge:yah ["field","root","row"] ["field","root","row"] (zae ycF):=⟨rfl,rfl,rfl,∅,rfl,∅,∅⟩
theorem yid(B:Bl mg)(xCh:Has P w K mg base 4 "value" ["field","row","one"] (zfe K))(xC6:Has P w K mg base 5 "power" ["field","one","many"] (ycE K))(F:Fun K "turned" "turned" ycF f fd):FnOk P w K mg base CX0 6 f fd ["field","root","row"] (zgp K):=by
 refine F.ok zge (λvs H Q E h=>?_) (λcdv A outer s H vs Q E hr h=>?_)
 ·obtain⟨fa,a,p,m,t,r,xs,rfl,_⟩:=h;rfl
 obtain⟨fa,a,p,m,t,r,xs,rfl,hF,G,r0,hrq,ha,hl,hx,q⟩:=h;have hp:=G.hp;have hm:=G.hm;refine⟨_,(yad (@yai _ _ _ _ (yaq yap rfl (B "tuple" #[]) zap (zaa (@zaI _ _ _ _ _ _ _ ["i"] ["field","row","root"] [0,2,1] _ _ _ _ (id (α:=CSc ["field","root","row"] (zae ycF) ["i"] ["field","row","root"] [0,2,1] _) ⟨by rfl,∅,∅,∅,∅,by rfl,∅⟩) rfl (@yaG _ _ _ _ _ _ rfl (B "range" #[]) (zaa (zam zak rfl (B "len" #[]) xAR (zaa (pv 2) zab ⋯) #[] #[] ⋯ ⋯) zab ⋯) ⋯) (λcl C fp s H=>(@yae _ _ 0 _ (by show List.Nodup (["i","field","row","root"]:List Str);decide +kernel) rfl (Or.inl rfl) (by trivial))) (λ_ _ _ _ _=>yaD) (λ_ _ _ _ _=>(zad xCh hr #[] rfl (zaa (pv 1) (zaa (pv 2) (zaa (zad xC6 hr #[] rfl (zaa (pv 1) (zaa (pv 3) (zaa (pv 0) zab ⋯) ⋯) ⋯) #[] ⋯ ⋯) zab ⋯) ⋯) ⋯) #[] ⋯ ⋯)) (by intro _;rfl)) zab ⋯) #[] #[] ⋯ ⋯))),?_⟩;refine⟨_,rfl,a,_,rfl,.inr ha,(xs.length:Int),by rw[xA1],(),(),?_⟩;refine zav zaZ (λk acc H'=>H'=H/\acc=((List.range k).map λi=>val p m t (pw p m t r i) xs).map Vn) ⟨rfl,rfl⟩ (λ_ _ _ _ _=>trivial) ?_ ?_ ?_
 ·rintro k acc H' hk ⟨_,rfl⟩;rw[xAm]at hk;rw[xA1,xA1,xAt];exact zal ()
 ·rintro k acc x H1 H2 hk ⟨rfl,rfl⟩ ⟨rfl,rfl⟩;refine⟨_,rfl,_,rfl,_,rfl,_,rfl,_,rfl,fa,p,m,t,r,_,rfl,hF,G,hrq,λh=>absurd h (),?_⟩;rw[Int.zero_add,ycY G hrq];refine⟨fa,a,p,m,t,pw p m t r k,xs,rfl,hF,G,ha,hx,zaA hp hm _ _,?_⟩;refine⟨rfl,?_⟩;rw[xBa,xA8,xA8];rfl
 ·rw[xAm];rintro acc H1 ⟨rfl,rfl⟩ D hD;refine⟨D,_,rfl,.inl ⟨SqL.of yab,λd hd=>?_⟩⟩;exact q d _ ((zac hD _).trans (zac hd _)) ((zac hD _).free hd) yab
noncomputable def bS(p m t r:Nat):Nat:=mul p m t 1 (pw p m t r (p^m-2))
theorem zgP{p m t r:Nat}(G:Good p m t):bS p m t r<p^m:=zaw G.hp G.hm _ _
theorem ydY{p m t r:Nat}(G:Good p m t)(h0:0<r)(hr:r<p^m):mul p m t (bS p m t r) r=1:=by
 unfold bS;rw[one_mul G.hp G.hm (zaA G.hp G.hm _ _)];exact G.inv h0 hr
noncomputable def zc9(p m t r n:Nat)(xs:List Nat):List Nat:=zaB p m t (bS p m t (n%p)) (dft p m t (bS p m t r) xs)
theorem zdv(p m t r n:Nat)(xs:List Nat):(zc9 p m t r n xs).length=xs.length:=by simp[zc9,zaB,ya5]
theorem zcR{p m t:Nat}(G:Good p m t)(n:Nat):n%p<p^m:=xAp (xAC _ (by have:=G.hp;omega)) (Nat.le_self_pow (by have:=G.hm;omega) p)
theorem zhl{p m t r n:Nat}{xs:List Nat}(G:Good p m t)(h0:0<r)(hr:r<p^m)(o:Ord p m t r n)(hl:xs.length=n)(hx:∀x∈xs,x<p^m):zc9 p m t r n (dft p m t r xs)=xs :=
 ze7 G hr (zgP G) (ydY G h0 hr) o hl hx (ydY G (Nat.pos_of_ne_zero (yhP G h0 hr o)) (zcR G n))
theorem ye7{p m t r n:Nat}{xs:List Nat}(G:Good p m t)(h0:0<r)(hr:r<p^m)(o:Ord p m t r n)(hl:xs.length=n)(hx:∀x∈xs,x<p^m):dft p m t r (zc9 p m t r n xs)=xs :=
 ygf G hr (zgP G) (ydY G h0 hr) o hl hx (ydY G (Nat.pos_of_ne_zero (yhP G h0 hr o)) (zcR G n))
theorem ycf{p m t r n:Nat}{xs:List Nat}(G:Good p m t):∀x∈zc9 p m t r n xs,x<p^m:=ybQ G _ _
noncomputable def yeE(K:PySem.W.Frag):Sp:=λvs H Q _=>∃(fa a:Addr) (p m t r n:Nat) (xs:List Nat),vs=[.ref fa,Vn r,.ref a]/\Fld K H fa p m t/\Good p m t/\0<r/\r<p^m/\Ord p m t r n/\xs.length=n/\SqT K H a (xs.map Vn)/\n<=64/\(∀x∈xs,x<p^m)/\
 ∀d H',Same H H'->H d=none->H' d=some (.tup ((zc9 p m t r n xs).map Vn))->Q (.ref d) H'
theorem zbY:yah ["field","root","row","often"] ["field","root","row"] (zae ybv):=⟨rfl,rfl,rfl,∅,rfl,∅,∅⟩
theorem zhH(B:Bl mg)(xCk:Has P w K mg base 4 "word_times" ["field","one","word"] (ybw K))(xC3:Has P w K mg base 5 "over" ["field","one","other"] (yez K))(xCf:Has P w K mg base 6 "turned" ["field","root","row"] (zgp K))(F:Fun K "turned_back" "turned_back" ybv f fd):FnOk P w K mg base CX0 7 f fd ["field","root","row"] (yeE K):=by
 refine F.ok zbY (λvs H Q E h=>?_) (λcdv A outer s H vs Q E hr h=>?_)
 ·obtain⟨fa,a,p,m,t,r,n,xs,rfl,_⟩:=h;rfl
 obtain⟨fa,a,p,m,t,r,n,xs,rfl,hF,G,r0,hrq,o,hl,ha,hn,hx,q⟩:=h;have hp:=G.hp;have hm:=G.hm;have h1:=yax hp hm;refine⟨_,(yaa (@yaf _ _ 3 _ _ _ _ zbY.nd rfl (Or.inl rfl) (zag zaC (zam zak rfl (B "len" #[]) xAR (zaa (pv 2) zab ⋯) #[] #[] ⋯ ⋯) (zao zax (pv 0) yac (λ_ _=>rfl))) ⋯ (by trivial)) (yad (@yai _ _ _ _ (zad xCk hr #[] rfl (zaa (pv 0) (zaa (zad xC3 hr #[] rfl (zaa (pv 0) (zaa yac (zaa (pv 3) zab ⋯) ⋯) ⋯) #[] ⋯ ⋯) (zaa (zad xCf hr #[] rfl (zaa (pv 0) (zaa (zad xC3 hr #[] rfl (zaa (pv 0) (zaa yac (zaa (pv 1) zab ⋯) ⋯) ⋯) #[] ⋯ ⋯) (zaa (pv 2) zab ⋯) ⋯) ⋯) #[] ⋯ ⋯) zab ⋯) ⋯) ⋯) #[] ⋯ ⋯)))),?_⟩;refine⟨_,rfl,a,_,rfl,.inr ha,_,rfl,fa,_,_,_,rfl,rfl,hF,rfl,_,_,rfl,rfl,by show(0:Int)<p;omega,?_⟩;dsimp only[yaw];rw[xA1,hl];refine⟨_,rfl,_,rfl,_,rfl,fa,p,m,t,1,n%p,rfl,hF,G,h1,Nat.pos_of_ne_zero (yhP G r0 hrq o),zcR G n,?_⟩;refine⟨_,rfl,_,rfl,_,rfl,fa,p,m,t,1,r,rfl,hF,G,h1,r0,hrq,?_⟩;have hs:0<bS p m t r:=by
  rcases xAO (bS p m t r) with h|h
  ·have:=ydY G r0 hrq;rw[h,zero_mul hp hm]at this;omega
  ·exact h
 refine⟨_,rfl,fa,a,p,m,t,bS p m t r,xs,rfl,hF,G,hs,zgP G,ha,(),hx,λd H1 s1 nd e1=>?_⟩;refine⟨fa,d,p,m,t,bS p m t (n%p),dft p m t (bS p m t r) xs,rfl,Same.tup s1 hF,G,zgP G,SqT.of e1,by rw[ya5];omega,ydj G _ _,λd2 H2 s2 nd2 e2=>?_⟩;exact q d2 _ (s1.trans s2) (s1.free nd2) e2
end
noncomputable def ownL(p m t root n:Nat)(marks:List Nat):List Nat:=zc9 p m t root n (ownV n marks)
theorem ybS(p m t root n:Nat)(marks:List Nat):(ownL p m t root n marks).length=n:=by unfold ownL;rw[zdv,yce]
section
variable {p m t:Nat} (G:Good p m t)
include G
theorem yci{root n i:Nat}{marks:List Nat}(r0:0<root)(hr:root<p^m)(o:Ord p m t root n)(hi:i<n):val p m t (pw p m t root i) (ownL p m t root n marks)=if i∈marks then 0 else 1:=by
 have e:=ye7 G r0 hr o (yce n marks) (zfz G n marks);have h:=congrArg (λl=>l.getD i 0) e;have e1:(dft p m t root (zc9 p m t root n (ownV n marks))).getD i 0=val p m t (pw p m t root i) (zc9 p m t root n (ownV n marks)):=by
  unfold dft;rw[rget (by rw[zdv,yce];exact hi)]
 have e2:(ownV n marks).getD i 0=if i∈marks then 0 else 1:=by unfold ownV;rw[rget hi]
 rw[<-e2];exact e1.symm.trans h
omit G in
theorem zfI(n:Nat):(List.range n).Pairwise (· < ·):=List.pairwise_lt_range
theorem zeB{root n:Nat}{u v:List Nat}(r0:0<root)(hr:root<p^m)(o:Ord p m t root n)(lu:u.length=n)(lv:v.length=n)(hu:∀x∈u,x<p^m)(hv:∀x∈v,x<p^m)(h:∀i,i<n->val p m t (pw p m t root i) u=val p m t (pw p m t root i) v):u=v:=by
 refine zd8 G (pts:=(List.range n).map λk=>pw p m t root k) (yhe G r0 hr o (zfI n) (λx hx=>xAu.mp hx)) (λy hy=>?_) (by rw[lu,lv]) hu hv ?_ (λy hy=>?_)
 ·obtain⟨k,_,rfl⟩:=xAe.mp hy;exact zaA G.hp G.hm _ _
 ·rw[xA1,xAt,List.drop_eq_nil_of_le (),List.drop_eq_nil_of_le ()]
 ·obtain⟨k,hk,rfl⟩:=xAe.mp hy;exact h k (xAu.mp hk)
theorem zhx{few root n:Nat}{marks:List Nat}(W:Whl p m t few root n marks):∀x∈ownL p m t root n marks,pw p m t x (p^few)=x:=by
 have hp:=G.hp;have hm:=G.hm;have hlt:∀x∈ownL p m t root n marks,x<p^m:=ycf G;have hpos:0<p^few:=xB7 ();have e:((ownL p m t root n marks).map λx=>pw p m t x (p^few))=ownL p m t root n marks:=by
  refine zeB G W.r0 W.rq W.ord (by rw[xA1,ybS]) (ybS _ _ _ _ _ _) (λx hx=>by obtain⟨y,_,rfl⟩:=xAe.mp hx;exact zaA hp hm _ _) hlt λi hi=>?_
  have hpi:preQ p few m n i<n:=xAC _ ();rw[<-yhc G W hi,zff G (zaA hp hm _ _) _ hlt,yhc G W hi,yci G W.r0 W.rq W.ord hpi,yci G W.r0 W.rq W.ord hi];by_cases c:i∈marks
  ·rw[if_pos ((yfC G W hi).mpr c),if_pos c,show p^few=(p^few-1)+1 by omega,yck hp hm]
  ·rw[if_neg (λh=>c ((yfC G W hi).mp h)),if_neg c,za7 hp hm]
 intro x hx;obtain⟨i,hi,rfl⟩:=List.mem_iff_getElem.mp hx;have:=congrArg (λl=>l[i]?) e;rw[xA9,xA7 hi]at this;exact xAw this
theorem zcV{few root n:Nat}{marks row:List Nat}(W:Whl p m t few root n marks)(lr:row.length=n)(hr:∀x∈row,x<p^m)(hz:∀k∈marks,val p m t (pw p m t root k) row=0):rp p m t (ownL p m t root n marks) row=row:=by
 have hp:=G.hp;have hm:=G.hm;have lo:=ybS p m t root n marks;refine zeB G W.r0 W.rq W.ord (by simp[rp,lo]) lr (zgw hp hm _ _) hr λi hi=>?_
 have h1:pw p m t (pw p m t root i) n=1:=by rw[<-yaz hp hm,xAL,yaz hp hm,W.ord.one,za7 hp hm]
 rw[yeb G (zaA hp hm _ _) h1 lo lr (ycf G) hr,yci G W.r0 W.rq W.ord hi];by_cases c:i∈marks
 ·rw[if_pos c,zero_mul hp hm,hz i c]
 ·rw[if_neg c,one_mul hp hm (zbt hp hm _ _)]
end
section
variable {P:Program} {w:World} {K:PySem.W.Frag} {mg:Str->Option Value} {base:Heap} {f:Addr} {fd:FuncData}
noncomputable def yhd(K:PySem.W.Frag):Sp:=λvs H Q _=>∃(wh fa mk:Addr) (p m t few root n:Nat) (marks:List Nat),vs=[.ref wh]/\WhAt H wh fa mk few root marks/\Fld K H fa p m t/\Good p m t/\0<root/\root<p^m/\Ord p m t root n/\n<=64/\∀r H',Same H H'->H r=none->H' r=some (.tup ((ownL p m t root n marks).map Vn))->Q (.ref r) H'
theorem yaX:yah ["wheel","field","few","root","marks","values"] ["wheel"] (zae zbU):=⟨rfl,rfl,rfl,∅,rfl,∅,∅⟩
theorem yh2(B:Bl mg)(xBV:Has P w K mg base 5 "length" ["wheel"] (yc5 K))(xCg:Has P w K mg base 7 "turned_back" ["field","root","row"] (yeE K))(F:Fun K "own_word" "own_word" zbU f fd):FnOk P w K mg base CX0 8 f fd ["wheel"] (yhd K):=by
 refine F.ok yaX (λvs H Q E h=>?_) (λcdv A outer s H vs Q E hr h=>?_)
 ·obtain⟨wh,fa,mk,p,m,t,few,root,n,marks,rfl,_⟩:=h;rfl
 obtain⟨wh,fa,mk,p,m,t,few,root,n,marks,rfl,hW,hF,G,r0,rq,o,hn,q⟩:=h;refine⟨_,(yaa (@za5 _ _ _ _ _ _ (pv 0) (@zaX _ _ _ _ _ _ rfl (yag (@yae _ _ 1 _ yaX.nd rfl (Or.inl rfl) (by trivial)) (yag (@yae _ _ 2 _ yaX.nd rfl (Or.inl rfl) (by trivial)) (yag (@yae _ _ 3 _ yaX.nd rfl (Or.inl rfl) (by trivial)) (yag (@yae _ _ 4 _ yaX.nd rfl (Or.inr rfl) (by trivial)) yaE ⋯) ⋯) ⋯) ⋯) ⋯ ⋯) ⋯ ⋯ ⋯) (yaa (@yaf _ _ 5 _ _ _ _ yaX.nd rfl (Or.inl rfl) (yaq yap rfl (B "tuple" #[]) zap (zaa (@zaI _ _ _ _ _ _ _ ["i"] ["marks"] [4] _ _ _ _ (id (α:=CSc ["wheel","field","few","root","marks","values"] (zae zbU) ["i"] ["marks"] [4] _) ⟨by rfl,∅,∅,∅,∅,by rfl,∅⟩) rfl (@yaG _ _ _ _ _ _ rfl (B "range" #[]) (zaa (zad xBV hr #[] rfl (zaa (pv 0) zab ⋯) #[] ⋯ ⋯) zab ⋯) ⋯) (λcl C fp s H=>(@yae _ _ 0 _ (by show List.Nodup (["i","marks"]:List Str);decide +kernel) rfl (Or.inl rfl) (by trivial))) (λ_ _ _ _ _=>yaD) (λ_ _ _ _ _=>(@ygZ _ _ _ _ _ _ _ _ (@zai _ _ _ _ _ _ _ _ (zfq (K:=K) rfl) (pv 0) (pv 1) (by with_unfolding_all rfl)) yac yac)) (by intro _;rfl)) zab ⋯) #[] #[] ⋯ ⋯) ⋯ (by trivial)) (yad (@yai _ _ _ _ (zad xCg hr #[] rfl (zaa (pv 1) (zaa (pv 3) (zaa (pv 5) zab ⋯) ⋯) ⋯) #[] ⋯ ⋯))))),?_⟩;refine⟨_,rfl,wh,_,rfl,SqT.of hW.w,rfl,_,_,rfl,_,_,rfl,_,_,rfl,_,_,rfl,rfl,?_⟩;refine⟨_,rfl,wh,fa,p,m,t,few,root,_,rfl,SqT.of hW.w,hF,G,r0,rq,λn' o' _=>?_⟩;cases o'.uniq o;refine⟨(n:Int),rfl,(),(),?_⟩;refine zav zaZ (λk acc H'=>H'=H/\acc=(ownV k marks).map Vn) ⟨rfl,rfl⟩ (λ_ _ _ _ _=>trivial) ?_ ?_ ?_
 ·rintro k acc H' hk ⟨_,rfl⟩;rw[xAm]at hk;rw[xA1,yce];exact zal ()
 ·rintro k acc x H1 H2 hk ⟨rfl,rfl⟩ ⟨rfl,rfl⟩;refine⟨_,rfl,_,rfl,mk,_,rfl,.inr (SqT.of hW.k),rfl,zdl marks,_,rfl,?_⟩;have e:inV (V.int (0+(k:Int))) (marks.map Vn)=decide (k∈marks):=by rw[Int.zero_add,zec]
  have e2:ownV (k+1) marks=ownV k marks++[if k∈marks then 0 else 1]:=by unfold ownV;rw[xBa,xA8];rfl
  rw[e2,xA8];refine ite2 (λc=>?_) (λc=>?_)
  ·have c':k∈marks:=xAh (e ▸ c);exact⟨rfl,by rw[if_pos c'];rfl⟩
  ·have c':¬ k∈marks:=λh=>c (e.trans (xAz h))
   exact⟨rfl,by rw[if_neg c'];rfl⟩
 ·rw[xAm];rintro acc H1 ⟨rfl,rfl⟩ D hD;have s1:=zac hD (.lst ((ownV n marks).map Vn));refine⟨D,_,rfl,.inl ⟨SqL.of yab,λtv htv=>?_⟩⟩;have s2:=s1.trans (zac htv (.tup ((ownV n marks).map Vn)));dsimp only[yaw];refine⟨_,rfl,_,rfl,_,rfl,fa,tv,p,m,t,root,n,ownV n marks,rfl,Same.tup s2 hF,G,r0,rq,o,yce n marks,SqT.of yab,hn,zfz G n marks,λd H3 s3 nd ed=>?_⟩;exact q d H3 (s2.trans s3) (s2.free nd) ed
noncomputable def zhS(K:PySem.W.Frag):Sp:=λvs H Q _=>∃(fa a b:Addr) (p m t:Nat) (xs ys:List Nat),vs=[.ref fa,.ref a,.ref b]/\Fld K H fa p m t/\Good p m t/\SqT K H a (xs.map Vn)/\SqT K H b (ys.map Vn)/\0<xs.length/\xs.length<=100/\ys.length=xs.length/\(∀x∈xs,x<p^m)/\(∀y∈ys,y<p^m)/\
 ∀r H',Same H H'->H r=none->H' r=some (.tup ((rp p m t xs ys).map Vn))->Q (.ref r) H'
theorem yar:yah ["field","one","other","n","product","i","a","j","b","k"] ["field","one","other"] (zae zbe):=⟨rfl,rfl,rfl,∅,rfl,∅,∅⟩
theorem zir(B:Bl mg)(xC5:Has P w K mg base 1 "plus" ["field","one","other"] (zbO K))(xCc:Has P w K mg base 3 "times" ["field","one","other"] (zba K))(F:Fun K "round_product" "round_product" zbe f fd):FnOk P w K mg base CX0 4 f fd ["field","one","other"] (zhS K):=by
 refine F.ok yar (λvs H Q E h=>?_) (λcdv A outer s H vs Q E hr h=>?_)
 ·obtain⟨fa,a,b,p,m,t,xs,ys,rfl,_⟩:=h;rfl
 obtain⟨fa,a,b,p,m,t,xs,ys,rfl,hF,G,ha,hb,hl0,hl,hly,hx,hy,q⟩:=h;have hp:=G.hp;have hm:=G.hm;have hp2:=p_le hp hm G.hq;refine⟨_,(yaa (@yaf _ _ 3 _ _ _ _ yar.nd rfl (Or.inl rfl) (zam zak rfl (B "len" #[]) xAR (zaa (pv 1) zab ⋯) #[] #[] ⋯ ⋯) ⋯ (by trivial)) (yaa (@yaf _ _ 4 _ _ _ _ yar.nd rfl (Or.inl rfl) (zag zdV (@yaI _ _ _ _ (zaa yac zab ⋯)) (pv 3)) ⋯ (by trivial)) (yaa (@zaF _ _ _ _ _ _ _ _ xAi rfl (@ybz _ _ _ _ _ _ _ _ rfl (B "enumerate" #[]) (zaa (pv 1) zab ⋯) ⋯) (@zaX _ _ _ _ _ _ rfl (yag (@yae _ _ 5 _ yar.nd rfl (Or.inl rfl) (by trivial)) (yag (@yae _ _ 6 _ yar.nd rfl (Or.inl rfl) (by trivial)) yaE ⋯) ⋯) ⋯ ⋯) (yad (@zaF _ _ _ _ _ _ _ _ xAi rfl (@ybz _ _ _ _ _ _ _ _ rfl (B "enumerate" #[]) (zaa (pv 2) zab ⋯) ⋯) (@zaX _ _ _ _ _ _ rfl (yag (@yae _ _ 7 _ yar.nd rfl (Or.inl rfl) (by trivial)) (yag (@yae _ _ 8 _ yar.nd rfl (Or.inl rfl) (by trivial)) yaE ⋯) ⋯) ⋯ ⋯) (yaa (@yaf _ _ 9 _ _ _ _ yar.nd rfl (Or.inl rfl) (zag zaC (zag yav (pv 5) (pv 7)) (pv 3)) ⋯ (by trivial)) (yad (@za5 _ _ _ _ _ _ (zad xC5 hr #[] rfl (zaa (pv 0) (zaa (zao yan (pv 4) (pv 9) (λ_ _=>rfl)) (zaa (zad xCc hr #[] rfl (zaa (pv 0) (zaa (pv 6) (zaa (pv 8) zab ⋯) ⋯) ⋯) #[] ⋯ ⋯) zab ⋯) ⋯) ⋯) #[] ⋯ ⋯) (@zct _ _ _ _ _ _ _ (pv 4) (pv 9) ybm (by intro _;rfl)) ⋯ ⋯ ⋯))) (by intro _;rfl))) (by intro _;rfl)) (yad (@yai _ _ _ _ (yaq yap rfl (B "tuple" #[]) zap (zaa (pv 4) zab ⋯) #[] #[] ⋯ ⋯)))))),?_⟩;refine⟨_,rfl,a,_,rfl,.inr ha,?_⟩;refine⟨szl 1,λl hl1=>?_⟩;have s1:=zac hl1 (.lst [V.int 0]);refine⟨_,rfl,l,_,_,rfl,rfl,yab,by rw[xA1];omega,by rw[xA1];omega,by rw[xA1,xAm];exact szl _ (by simp;omega),λl2 hl2=>?_⟩;rw[xA1,xAm,ycd];have e1:List.replicate xs.length 0=(List.range xs.length).map λk=>rpS p m t xs ys 0 k:=by
  refine xAS (by simp) λi h1 h2=>?_
  simp;rfl
 rw[e1];have s2:=s1.trans (zac hl2 (.lst (((List.range xs.length).map λk=>rpS p m t xs ys 0 k).map Vn)));have n2:=s1.free hl2;refine⟨_,rfl,true,a,rfl,⟨_,Same.tup s2 ha⟩,?_⟩;refine yaK (zaW (b:=true) (xs:=xs.map Vn)) (λi σ H'=>Same H H'/\H' l2=some (.lst (((List.range xs.length).map λk=>rpS p m t xs ys i k).map Vn))/\∃s5 s6 s7 s8 s9,σ=[some (.ref fa),some (.ref a),some (.ref b),some (Vn xs.length),some (.ref l2),s5,s6,s7,s8,s9]) ⟨s2,yab,none,none,none,none,none,rfl⟩ (λi σ H' _ h=>Same.tup h.1 ha) ?_ ?_
 ·rintro i z σ H1 H2 hi ⟨s3,e3,s5,s6,s7,s8,s9,rfl⟩ ⟨T,u,rfl,eu,hT,rfl⟩;rw[xA1]at hi;rw[yay hi]at eu;cases eu;have sT:=zac hT (.tup [.int (i:Int),Vn (xs.getD i 0)]);refine⟨T,_,rfl,SqT.of yab,rfl,_,_,rfl,_,_,rfl,rfl,?_⟩;refine⟨_,rfl,true,b,rfl,⟨_,Same.tup (s3.trans sT) hb⟩,?_⟩;refine yaK (zaW (b:=true) (xs:=ys.map Vn)) (λj σ H'=>Same H H'/\H' l2=some (.lst ((rpP p m t xs ys i j).map Vn))/\∃s7 s8 s9,σ=[some (.ref fa),some (.ref a),some (.ref b),some (Vn xs.length),some (.ref l2),some (Vn i),some (Vn (xs.getD i 0)),s7,s8,s9]) ⟨s3.trans sT,by rw[zgI hp hm];exact sT _ _ e3,_,_,_,rfl⟩ (λi σ H' _ h=>Same.tup h.1 hb) ?_ ?_
  ·rintro j z σ H3 H4 hj ⟨s4,e4,s7,s8,s9,rfl⟩ ⟨T2,u,rfl,eu,hT2,rfl⟩;rw[xA1]at hj;rw[yay hj]at eu;cases eu;have sU:=zac hT2 (.tup [.int (j:Int),Vn (ys.getD j 0)]);have s5':=s4.trans sU;have e5:=sU _ _ e4;have hn:(i+j)%xs.length<xs.length:=xAC _ ();have hF5:Fld K _ fa p m t:=Same.tup s5' hF;refine⟨T2,_,rfl,SqT.of yab,rfl,_,_,rfl,_,_,rfl,rfl,?_⟩;refine⟨_,rfl,_,rfl,_,_,rfl,rfl,_,rfl,_,_,rfl,rfl,(),?_⟩;refine⟨_,rfl,_,rfl,_,rfl,l2,_,_,_,rfl,rfl,SqL.of e5,yaZ (j:=(i+j)%xs.length) (yay (by rw[zcN hp hm];exact hn)),_,rfl,_,rfl,_,rfl,fa,p,m,t,xs.getD i 0,ys.getD j 0,rfl,hF5,hp,hm,G.hq,G.top,yaM hx hi,yaM hy hj,λr br h1=>?_⟩;cases zbH hp hm br h1;have hlt:(rpP p m t xs ys i j).getD ((i+j)%xs.length) 0<p^m:=by
    unfold rpP;rw[ygQ hn];exact zbg hp hm _ _
   refine⟨fa,p,m,t,_,_,rfl,hF5,hp,hp2,λr h2=>?_⟩;cases ydn hp hm hlt (zaw hp hm _ _) h2;refine⟨_,rfl,_,rfl,l2,_,_,(i+j)%xs.length,rfl,rfl,e5,?_,?_⟩
   ·rw[xA1,zcN hp hm];show ixN xs.length (((i+j)%xs.length:Nat):Int)=_;unfold ixN;rw[if_pos (),if_pos ()];rfl
   ·rw[<-List.map_set,yhm hp hm xs ys hi ()];exact⟨zbB s5' n2,yab,_,_,_,rfl⟩
  ·rw[xA1,hly,yhH hp hm xs ys hi];rintro σ H3 ⟨s4,e4,s7,s8,s9,rfl⟩;exact⟨s4,e4,_,_,_,_,_,rfl⟩
 ·rw[xA1];rintro σ H1 ⟨s3,e3,s5,s6,s7,s8,s9,rfl⟩;refine⟨_,rfl,l2,_,rfl,.inl ⟨SqL.of e3,λr hr=>?_⟩⟩;exact q r _ (s3.trans (zac hr _)) (s3.free hr) yab
theorem zix{pu g a:Addr}{o:HO}{H H':Hp}(s:zaq pu g H H')(h:H a=none):zaq pu g H (upd H' a o):=λb u n1 n2 e=>by rw[zah (zaf e h)];exact s _ _ n1 n2 e
theorem Pu.at{H:Hp}{a g r:Addr}{o:HO}(h:Pu H a g)(n:r≠a/\r≠g):Pu (upd H r o) a g:=by
 obtain⟨ns,x,t,h1,h2⟩:=h;exact⟨ns,x,t,by rw[zah (Ne.symm n.1)];exact h1,by rw[zah (Ne.symm n.2)];exact h2⟩
noncomputable def yhi:Sp:=λvs H Q _=>∃(pu g tb fa pa la:Addr) (p m t b n:Nat),vs=[.ref pu,.ref tb,Vn n]/\Pu H pu g/\Tab H tb fa pa la p m t b/\zg1 pu g tb fa pa la/\0<n/\n<=100/\
 ∀(r:Addr) (ns:List Nat) H',Pu H' pu g->zaq pu g H H'->H' r=some (.tup (ns.map Vn))->ns.length=n->(∀x∈ns,x<p^m)->Q (.ref r) H'
theorem ybe:yah ["_law_purse_here","_law_table_here","_law_n","_law_way","_law_at","_law_row_here","_law_k","_law_here"] ["_law_purse_here","_law_table_here","_law_n"] (zae ycl):=⟨rfl,rfl,rfl,∅,rfl,∅,∅⟩
theorem zio(B:Bl mg)(xBE:Has P w K mg base 1 "_law_pick" ["_law_purse_here","_law_many"] ycr)(F:Fun K "_law_row" "_law_row" ycl f fd):FnOk P w K mg base CX0 2 f fd ["_law_purse_here","_law_table_here","_law_n"] yhi:=by
 refine F.ok ybe (λvs H Q E h=>?_) (λcdv A outer s H vs Q E hr h=>?_)
 ·obtain⟨pu,g,tb,fa,pa,la,p,m,t,b,n,rfl,_⟩:=h;rfl
 obtain⟨pu,g,tb,fa,pa,la,p,m,t,b,n,rfl,hP,T,ap,hn0,hn,q⟩:=h;have G:=T.good;have hpos:0<p^m:=xB7 (by have:=G.hp;omega);have hQ:=G.hq;refine⟨_,(yaa (@zbI _ _ 3 4 _ _ _ _ _ _ _ _ _ _ _ rfl ybe.nd rfl rfl #[] rfl rfl (zaa (zad xBE hr #[] rfl (zaa (pv 0) (zaa yac zab ⋯) ⋯) #[] ⋯ ⋯) (zaa (zad xBE hr #[] rfl (zaa (pv 0) (zaa (pv 2) zab ⋯) ⋯) #[] ⋯ ⋯) zab ⋯) ⋯) rfl ⋯) (yaa (@yaf _ _ 5 _ _ _ _ ybe.nd rfl (Or.inl rfl) (@yaI _ _ _ _ zab) ⋯ (by trivial)) (yaa (@zaF _ _ _ _ _ _ _ _ xAi rfl (@yaG _ _ _ _ _ _ rfl (B "range" #[]) (zaa (pv 2) zab ⋯) ⋯) (@yae _ _ 6 _ ybe.nd rfl (Or.inl rfl) (by trivial)) (yaa (@yaf _ _ 7 _ _ _ _ ybe.nd rfl (Or.inl rfl) (yaq ydQ rfl (B "int" #[]) ycT (zaa (@yif _ _ _ _ _ _ _ (@ybg _ _ _ _ _ _ _ _ za4 (pv 3) yac (yaj _)) (@yif _ _ _ _ _ _ _ (@zg7 _ _ _ _ _ _ _ (@ybg _ _ _ _ _ _ _ _ za4 (pv 3) yac (yaj _)) (@yfP _ _ _ _ _ (@ybg _ _ _ _ _ _ _ _ za4 (zad xBE hr #[] rfl (zaa (pv 0) (zaa yac zab ⋯) ⋯) #[] ⋯ ⋯) yac (yaj _)))) (@yfP _ _ _ _ _ (@zg7 _ _ _ _ _ _ _ (@ybg _ _ _ _ _ _ _ _ za4 (pv 3) yac (yaj _)) (@yfP _ _ _ _ _ (@ybg _ _ _ _ _ _ _ _ za4 (pv 6) (pv 4) (yaj _))))))) zab ⋯) #[] #[] ⋯ ⋯) ⋯ (by trivial)) (yad (@zbM _ _ _ _ (@ydV _ _ _ _ _ _ _ _ _ _ _ _ xBg xBn xBm zbc (pv 5) (zaa (zag yaR (pv 7) (zad xBE hr #[] rfl (zaa (pv 0) (zaa (@zaH _ _ _ _ _ _ (ybG hr) (pv 1) yaN (λ_ _=>rfl)) zab ⋯) ⋯) #[] ⋯ ⋯)) zab ⋯) ⋯ ⋯ ⋯ ⋯ ⋯) ⋯))) (by intro _;rfl)) (yad (@yai _ _ _ _ (yaq yap rfl (B "tuple" #[]) zap (zaa (pv 5) zab ⋯) #[] #[] ⋯ ⋯)))))),?_⟩;refine⟨_,rfl,pu,g,3,rfl,hP,(),(),λway H1 h1 hP1 s1=>?_⟩;refine⟨_,rfl,_,rfl,pu,g,n,rfl,hP1,hn0,(),λat' H2 h2 hP2 s2=>?_⟩;refine⟨_,_,rfl,?_⟩;refine⟨szl 0,λl hl=>?_⟩;have nl:=hP2.lt hl;have sl:=zac hl (.lst []);have T2:=T.x ap (s1.trans s2);refine⟨_,rfl,(n:Int),rfl,(),(),?_⟩;refine zaU (lo:=0) (n:=(n:Int).toNat) (λk σ H'=>Pu H' pu g/\zaq pu g H2 H'/\∃(ts:List Nat) (s6 s7:Option V),ts.length=k/\H' l=some (.lst (ts.map Vn))/\(∀x∈ts,x<p^m)/\σ=[some (.ref pu),some (.ref tb),some (Vn n),some (Vn way),some (Vn at'),some (.ref l),s6,s7]) ⟨hP2.same sl,Same.x sl,[],none,none,rfl,yab,(λx hx=>nomatch hx),rfl⟩ ?_ ?_
 ·rintro k σ H3 hk ⟨hP3,sx3,ts,s6,s7,el,e3,hts,rfl⟩;rw[xAm]at hk;refine zbf (λσ H'=>Pu H' pu g/\zaq pu g H3 H'/\∃e:Nat,e<=1/\σ=[some (.ref pu),some (.ref tb),some (Vn n),some (Vn way),some (Vn at'),some (.ref l),some (.int (0+(k:Int))),some (Vn e)]) ?_ ?_
  ·rintro σ H4 ⟨hP4,sx4,e,he,rfl⟩;have e4:=sx4 _ _ nl.1 nl.2 e3;refine⟨_,rfl,.inl ⟨rfl,_,SqL.of e4⟩,_,rfl,_,rfl,_,rfl,tb,_,rfl,(T2.x ap (sx3.trans sx4)).get ycG,pu,g,p^m,rfl,hP4,hpos,(),λv H5 hv hP5 sx5=>?_⟩;refine⟨_,_,rfl,rfl,.inl ⟨(),()⟩,?_⟩;have e5:=sx5 _ _ nl.1 nl.2 e4;refine⟨l,_,_,rfl,rfl,e5,by rw[xA1];exact zal (),?_⟩;refine⟨hP5.at nl,zix (sx3.trans (sx4.trans sx5)) hl,ts++[e*v],_,_,by simp[el],by rw[yab,xA8];rfl,λx hx=>?_,rfl⟩;rcases xAB.mp hx with h|h
   ·exact hts x h
   ·cases xAJ.mp h;have:e=0\/e=1:=by omega
    rcases this with rfl|rfl
    ·rw[Nat.zero_mul];exact hpos
    ·rw[Nat.one_mul];exact hv
  ·intro D' _ _ _ hD;have fin:∀(e:Bool) (H':Hp),Pu H' pu g->zaq pu g H3 H'->D'.nx [some (.ref pu),some (.ref tb),some (Vn n),some (Vn way),some (Vn at'),some (.ref l),some (.int (0+(k:Int))),some (.int (if e=true then 1 else 0))] H':=by
    intro e H' hP' sx';cases e
    ·exact hD _ _ ⟨hP',sx',0,#[],rfl⟩
    ·exact hD _ _ ⟨hP',sx',1,#[],rfl⟩
   refine⟨_,rfl,rfl,_,rfl,?_⟩;refine ite2 (λ_=>.inr ⟨_,rfl,fin _ _ hP3 zaq.refl⟩) (λ_=>?_);refine⟨_,rfl,rfl,_,rfl,?_⟩;refine ite2 (λ_=>?_) (λ_=>?_)
   ·refine⟨_,rfl,pu,g,3,rfl,hP3,(),(),λv H4 hv hP4 sx4=>?_⟩;refine⟨rfl,_,rfl,?_⟩;refine ite2 (λ_=>.inr ⟨_,rfl,fin _ _ hP4 sx4⟩) (λ_=>?_);refine⟨_,rfl,rfl,_,rfl,?_⟩;refine ite2 (λ_=>?_) (λ_=>.inr ⟨_,rfl,fin _ _ hP4 sx4⟩);exact⟨_,rfl,_,rfl,rfl,.inr ⟨_,rfl,fin _ _ hP4 sx4⟩⟩
   ·refine⟨_,rfl,?_⟩;refine ite2 (λc=>absurd c #[]) (λ_=>?_);refine⟨_,rfl,rfl,_,rfl,?_⟩;refine ite2 (λ_=>?_) (λ_=>.inr ⟨_,rfl,fin _ _ hP3 zaq.refl⟩);exact⟨_,rfl,_,rfl,rfl,.inr ⟨_,rfl,fin _ _ hP3 zaq.refl⟩⟩
 ·rw[xAm];rintro σ H3 ⟨hP3,sx3,ts,s6,s7,el,e3,hts,rfl⟩;refine⟨_,rfl,l,_,rfl,.inl ⟨SqL.of e3,λr hr=>?_⟩⟩;have sr:=zac hr (.tup (ts.map Vn));exact q r ts _ (hP3.same sr) ((s1.trans s2).trans (sx3.trans (Same.x sr))) yab el hts
end
end My
end
section
-- text: Q94b
namespace My
open PySem L2 Dg
theorem zdG:∀(n:Nat) (l:List Nat),l.Nodup->(∀x∈l,x<n)->l.length<=n
 |0,[],_,_=>xA4 _
 |0,x::_,_,h=>absurd (h x xAf) ()
 |n+1,l,hd,h=>by
  have h1:=zdG n (l.erase n) (hd.erase n) λx hx=>by
   have:=(hd.mem_erase_iff).mp hx;have:=h x this.2;omega
  have:=List.length_erase_of_mem (a:=n) (l:=l);by_cases c:n∈l
  ·rw[this c]at h1;omega
  ·rw[List.erase_of_not_mem c]at h1;omega
theorem yfr{ns':List Int}{xs:List Nat}(h:ns'.Perm (xs.map λn:Nat=>(n:Int)))(ha:ns'.Pairwise (·<=·))(hd:xs.Nodup):∃ms:List Nat,ns'.map V.int=ms.map Vn/\ms.Pairwise (· < ·)/\∀x,x∈ms↔x∈xs:=by
 have hmem:∀i∈ns',∃n∈xs,(n:Int)=i:=λi hi=>xAe.mp (h.mem_iff.mp hi)
 have hn:ns'.Nodup:=h.nodup_iff.mpr (by
  rw[List.Nodup,List.pairwise_map];exact hd.imp λhne e=>hne (Int.ofNat.inj e))
 refine⟨ns'.map Int.toNat,?_,?_,λx=>?_⟩
 ·rw[List.map_map];refine xAE λi hi=>?_
  obtain⟨n,_,rfl⟩:=hmem i hi;rfl
 ·rw[List.pairwise_map];refine List.Pairwise.imp_of_mem ?_ (ha.and hn);intro a b h1 h2 h3;obtain⟨n1,_,rfl⟩:=hmem a h1;obtain⟨n2,_,rfl⟩:=hmem b h2;have:=h3.1;have h4:=h3.2;rw[xAm,xAm];have:n1≠n2:=λe=>h4 (by rw[e])
  omega
 ·rw[xAe];constructor
  ·rintro⟨i,hi,rfl⟩;obtain⟨n,hn',rfl⟩:=hmem i hi;exact hn'
  ·intro hx;exact⟨(x:Int),h.mem_iff.mpr (xAe.mpr ⟨x,hx,rfl⟩),rfl⟩
theorem yfu{n q:Nat}{ms:List Nat}(hl:∀x∈ms,x<n)(h:∀x∈ms,x*q%n∈ms){x:Nat}(hx:x∈ms)(c:Nat):x*q^c%n∈ms:=by
 induction c with
 |zero=>rw[Nat.pow_zero,Nat.mul_one,xAW (hl x hx)];exact hx
 |succ c ih=>
  have:=h _ ih;rw[Nat.mod_mul_mod,Nat.mul_assoc,<-xAD]at this;exact this
theorem zhA{K:PySem.W.Frag}{H:Hp}{a b:Addr}{xs ys:List V}{Q:VK}(ha:SqT K H a xs)(hb:SqT K H b ys)(hz:xs.length+ys.length<=1000)(h1:xs≠[])(h2:ys≠[])(q:∀p,H p=none->Q (.ref p) (upd H p (.tup (xs++ys)))):zhq K (.ref a) (.ref b) H Q :=
 ⟨a,b,xs,ys,rfl,rfl,ha,hb,szl _ (),λe=>absurd e h1,λ_ e=>absurd e h2,λ_ _ p hp=>q p hp⟩
theorem ydk(xs:List V)(N:Nat):cutV xs none (some (N:Int))=xs.take N:=by
 unfold cutV;rw[HT.sIx_none,HT.sIx_nat,List.drop_zero,Nat.sub_zero,<-List.take_eq_take_min]
theorem yim{K:PySem.W.Frag}{H:Hp}{a:Addr}{xs:List V}{N:Nat}{Q:VK}(h:SqT K H a xs)(q:∀(r:Addr) H',Same H H'->SqT K H' r (xs.take N)->Q (.ref r) H'):rSlA K (.ref a) none (some (N:Int)) H Q:=by
 refine⟨a,_,rfl,h,λe=>?_,λl hl=>?_⟩
 ·rw[ydk]at e;exact q a H (Same.refl _) (by rw[e];exact h)
 ·rw[ydk];exact q l _ (zac hl _) (SqT.of yab)
section
variable {P:Program} {w:World} {K:PySem.W.Frag} {mg:Str->Option Value} {base:Heap} {f:Addr} {fd:FuncData}
noncomputable def yf0:Sp:=λvs H Q _=>∃(pu g wh fa mk:Addr) (p m t few root n:Nat) (marks:List Nat),vs=[.ref pu,.ref wh,Vn n,Vn (p^few)]/\Pu H pu g/\Good p m t/\WhAt H wh fa mk few root marks/\(wh≠pu/\wh≠g)/\(mk≠pu/\mk≠g)/\Whl p m t few root n marks/\n<=63/\
 ∀(r k1:Addr) (ms:List Nat) H',WhAt H' r fa k1 few root ms->(r≠pu/\r≠g)->(k1≠pu/\k1≠g)->Whl p m t few root n ms->(p^few)^(n-ms.length)<=32->Pu H' pu g->zaq pu g H H'->Q (.ref r) H'
theorem yau:yah ["_law_purse_here","_law_wheel_here","_law_n","_law_q","_law_marks","_law_begin","_law_step","_law_i"] ["_law_purse_here","_law_wheel_here","_law_n","_law_q"] (zae zaY):=⟨rfl,rfl,rfl,∅,rfl,∅,∅⟩
theorem yhU(B:Bl mg)(xBE:Has P w K mg base 1 "_law_pick" ["_law_purse_here","_law_many"] ycr)(xBJ:Has P w K mg base 1 "_law_raised" ["_law_one","_law_many"] yam)(xBK:Has P w K mg base 1 "_law_ring" ["_law_i","_law_n","_law_q"] zcE)(F:Fun K "_law_few_enough" "_law_few_enough" zaY f fd):FnOk P w K mg base CX0 2 f fd ["_law_purse_here","_law_wheel_here","_law_n","_law_q"] yf0:=by
 refine F.ok yau (λvs H Q E h=>?_) (λcdv A outer s H vs Q E hr h=>?_)
 ·obtain⟨pu,g,wh,fa,mk,p,m,t,few,root,n,marks,rfl,_⟩:=h;rfl
 obtain⟨pu,g,wh,fa,mk,p,m,t,few,root,n,marks,rfl,hP4,G,hW,nwh,nmk,W,hn,ret⟩:=h;have hp:=G.hp;have hm:=G.hm;have hQ:=G.hq;have hnq:=W.nq;have hn0:=W.ord.pos;have hm6:=m_le hp hQ;have hfm:few<=m:=Nat.le_of_dvd () (xAV W.fewm);have hf1:=W.few1;have he1:1<=m/few:=Nat.div_pos hfm ();have he2:m/few<=6:=xAM (Nat.div_le_self _ _) hm6;have hqq:p^few<=64:=xAM (xB6 () hfm) hQ;have hq1:1<=p^few:=xB7 ();have hrnd:=W.ord.round G W.r0 W.rq W.fewm hf1;refine⟨_,(yaa (@yaf _ _ 4 _ _ _ _ yau.nd rfl (Or.inl rfl) (yaq ybK rfl (B "list" #[]) ybl (zaa (zao zax (pv 1) yac (λ_ _=>rfl)) zab ⋯) #[] #[] ⋯ ⋯) ⋯ (by trivial)) (yaa (@yaf _ _ 5 _ _ _ _ yau.nd rfl (Or.inl rfl) (zad xBE hr #[] rfl (zaa (pv 0) (zaa (pv 2) zab ⋯) ⋯) #[] ⋯ ⋯) ⋯ (by trivial)) (yaa (@zaF _ _ _ _ _ _ _ _ xAi rfl (@yaG _ _ _ _ _ _ rfl (B "range" #[]) (zaa (pv 2) zab ⋯) ⋯) (@yae _ _ 6 _ yau.nd rfl (Or.inl rfl) (by trivial)) (yaa (@yaf _ _ 7 _ _ _ _ yau.nd rfl (Or.inl rfl) (zag zaC (zag yav (pv 5) (pv 6)) (pv 2)) ⋯ (by trivial)) (yad (@yaS _ _ _ _ _ _ _ _ (@PW.pt _ _ _ (@yeZ _ _ _ _ _ _ _ (@zai _ _ _ _ _ _ _ _ yb3 (zad xBJ hr #[] rfl (zaa (pv 3) (zaa (zag yaW (pv 2) (zam zak rfl (B "len" #[]) xAR (zaa (pv 4) zab ⋯) #[] #[] ⋯ ⋯)) zab ⋯) ⋯) #[] ⋯ ⋯) yac (yaj _)) (@zds _ _ _ _ (@zai _ _ _ _ _ _ _ _ zei (pv 7) (pv 4) (by with_unfolding_all rfl))))) (yad (@yaf _ _ 4 _ _ _ _ yau.nd rfl (Or.inl rfl) (zag yfB (pv 4) (zad xBK hr #[] rfl (zaa (pv 7) (zaa (pv 2) (zaa (pv 3) zab ⋯) ⋯) ⋯) #[] ⋯ ⋯)) ⋯ (by trivial))) zas))) (by intro _;rfl)) (yad (@yai _ _ _ _ (zag zco (@zbT _ _ _ _ _ _ _ _ _ _ zdM (pv 1) zch (@zck _ _ _ yac)) (@zaV _ _ _ _ _ (zaa (yaq yap rfl (B "tuple" #[]) zap (zaa (zam yeu rfl (B "sorted" #[]) zbp (zaa (pv 4) zab ⋯) #[] #[] ⋯ ⋯) zab ⋯) #[] #[] ⋯ ⋯) zab ⋯)))))))),?_⟩;refine⟨_,rfl,wh,_,_,.ref mk,rfl,rfl,SqT.of hW.w,rfl,mk,_,rfl,.inr (SqT.of hW.k),λl0 hl0=>?_⟩;have sl:=zac hl0 (.lst (marks.map Vn));have nl0:=hP4.lt hl0;dsimp only[yaw];refine⟨_,rfl,_,rfl,pu,g,n,rfl,hP4.same sl,(),(),λspot H5 hspot hP5 sx5=>?_⟩;have sx45:zaq pu g H H5:=(Same.x sl).trans sx5;have hW5:=hW.x nwh nmk sx45;have e5:H5 l0=some (.lst (marks.map Vn)):=sx5 _ _ nl0.1 nl0.2 yab;dsimp only[yaw];refine⟨_,rfl,(n:Int),rfl,(),(),?_⟩;refine zaU (lo:=0) (n:=(n:Int).toNat) (λi σ H'=>Pu H' pu g/\zaq pu g H5 H'/\∃(ml:Addr) (ms:List Nat) (s6 s7:Option V),H' ml=some (.lst (ms.map Vn))/\(ml≠pu/\ml≠g)/\ms.Nodup/\(∀x∈ms,x<n)/\(∀x∈ms,x*p^few%n∈ms)/\((p^few)^(n-ms.length)<=32\/∀j,j<i->(spot+j)%n∈ms)/\σ=[some (.ref pu),some (.ref wh),some (Vn n),some (Vn (p^few)),some (.ref ml),some (Vn spot),s6,s7]) ⟨hP5,zaq.refl,l0,marks,none,none,e5,nl0,W.asc.imp λh=>by omega,W.lt,W.closed,.inr λj hj=>absurd hj (),rfl⟩ ?_ ?_
 ·rintro i σ H6 hi ⟨hP6,sx6,ml,ms,s6,s7,e6,nml,hnd,hlt,hcl,hor,rfl⟩;rw[xAm]at hi;have hlen:=zdG n ms hnd hlt;have em:V.int (((spot:Int)+(0+(i:Int)))%(n:Int))=Vn ((spot+i)%n):=by rw[Int.zero_add];rfl
  refine⟨_,rfl,_,rfl,_,_,rfl,rfl,_,rfl,_,_,rfl,rfl,by show(0:Int)<n;omega,?_⟩;dsimp only[yaw];rw[em];have hmk:(spot+i)%n<n:=xAC _ hn0;refine⟨_,rfl,_,rfl,_,rfl,ml,_,rfl,.inl (SqL.of e6),_,_,rfl,rfl,p^few,n-ms.length,?_,hqq,(),_,_,rfl,rfl,_,rfl,?_⟩
  ·rw[xA1];show [Vn (p^few),V.int ((n:Int)-(ms.length:Int))]=_;rw[show(n:Int)-(ms.length:Int)=((n-ms.length:Nat):Int) by omega]
  refine ite2 (λc=>?_) (λc=>?_)
  ·have c':32<(p^few)^(n-ms.length):=by
    have:=xAh c;exact Int.ofNat_lt.mp this
   have hor:∀j,j<i->(spot+j)%n∈ms:=by
    rcases hor with h|h
    ·omega
    ·exact h
   refine⟨_,rfl,_,rfl,ml,_,rfl,.inl (SqL.of e6),rfl,zdl ms,_,rfl,?_⟩;rw[zec];refine ite2 (λd=>?_) (λd=>?_)
   ·have d':(spot+i)%n∉ms:=λh=>by rw[xAz h]at d;exact absurd d #[]
    refine⟨_,rfl,_,rfl,_,rfl,_,rfl,(spot+i)%n,n,p^few,m/few,rfl,(),(),hqq,he1,he2,hrnd,λrg rs H7 s7 nrg erg h1 h2 h3 h4 h5 h6 h7=>?_⟩;refine⟨ml,rg,_,_,rfl,rfl,s7 _ _ e6,erg,by rw[xA1,xA1];exact szl _ (),λl2 hl2=>?_⟩;rw[<-xA8];have s8:=s7.trans (zac hl2 (.lst ((ms++rs).map Vn)));refine⟨hP6.same s8,sx6.trans (Same.x s8),l2,ms++rs,_,_,yab,(hP6.same s7).lt hl2,List.nodup_append.mpr ⟨hnd,h5,λx hx y hy exy=>?_⟩,λx hx=>?_,λx hx=>?_,.inr λj hj=>?_,rfl⟩
    ·subst exy;obtain⟨a',ea⟩:=h6 x hy;refine d' ?_;have:=yfu hlt hcl hx (m/few*a'-a');rw[ea,Nat.mod_mul_mod,zcJ hrnd he1,Nat.mod_mod]at this;exact this
    ·rcases xAB.mp hx with h|h
     ·exact hlt x h
     ·exact h3 x h
    ·rcases xAB.mp hx with h|h
     ·exact xAG _ (hcl x h)
     ·exact xAb _ (h4 x h)
    ·rcases xAN j i with h|h
     ·exact xAG _ (hor j h)
     ·rw[show j=i by omega];have:=h7 0;rw[Nat.pow_zero,Nat.mul_one,Nat.mod_mod]at this;exact xAb _ this
   ·have d':(spot+i)%n∈ms:=Classical.byContradiction λh=>d (by rw[xBw h];rfl)
    refine⟨hP6,sx6,ml,ms,_,_,e6,nml,hnd,hlt,hcl,.inr λj hj=>?_,rfl⟩;rcases xAN j i with h|h
    ·exact hor j h
    ·rw[show j=i by omega];exact d'
  ·have c':(p^few)^(n-ms.length)<=32:=by
    rcases xAN 32 ((p^few)^(n-ms.length)) with h|h
    ·exact absurd (xAz (Int.ofNat_lt.mpr h)) c
    ·exact h
   refine ite2 (λd=>absurd d #[]) (λ_=>?_);exact⟨hP6,sx6,ml,ms,_,_,e6,nml,hnd,hlt,hcl,.inl c',rfl⟩
 ·rw[xAm];rintro σ H6 ⟨hP6,sx6,ml,ms,s6,s7,e6,nml,hnd,hlt,hcl,hor,rfl⟩;have hsz:(p^few)^(n-ms.length)<=32:=by
   rcases hor with h|h
   ·exact h
   ·have hall:∀x∈List.range n,x∈ms:=λx hx=>by
     have hx:=xAu.mp hx;by_cases c:spot<=x
     ·have:=h (x-spot) ();rw[show spot+(x-spot)=x by omega,xAW hx]at this;exact this
     ·have:=h (x+n-spot) ();rw[show spot+(x+n-spot)=x+n by omega,Nat.add_mod_right,xAW hx]at this;exact this
    have:=ydq (List.nodup_range) hall;rw[xAt]at this;rw[show n-ms.length=0 by omega,Nat.pow_zero];decide
  have hW6:=hW5.x nwh nmk sx6;have hlen:=zdG n ms hnd hlt;refine⟨_,rfl,(3:Nat),rfl,yim (SqT.of hW6.w) λw1 HA t1 eA=>?_⟩;refine⟨_,rfl,ml,(ms.map λn:Nat=>(n:Int)),rfl,SqL.of (by rw[mapI];exact t1 _ _ e6),by rw[xA1];omega,λl2 ns' hl2 perm asc=>?_⟩;obtain⟨ms2,ems,hasc,hmm⟩:=yfr perm asc hnd;have hlen2:ms2.length=ms.length:=by
   have:=congrArg List.length ems;rw[xA1,xA1,perm.length_eq,xA1]at this;exact this.symm
  rw[ems];have t2:=zac hl2 (.lst (ms2.map Vn));refine⟨l2,_,rfl,.inl ⟨SqL.of yab,λk1 hk1=>?_⟩⟩;have t3:=zac hk1 (.tup (ms2.map Vn));refine⟨szl 1,λw2 hw2=>?_⟩;have t4:=zac hw2 (.tup [.ref k1]);refine zhA (Same.tup (t2.trans (t3.trans t4)) eA) (SqT.of yab) (show 3+1<=1000 by omega) (λe=>nomatch e) (λe=>nomatch e) λw3 hw3=>?_
  have t5:=zac hw3 (.tup [.ref fa,Vn few,Vn root,.ref k1]);have hP7:=hP6.same (t1.trans t2);have hP8:=(hP7.same t3).same t4;refine ret w3 k1 ms2 _ ⟨yab,t5 _ _ (t4 _ _ yab)⟩ (hP8.lt hw3) (hP7.lt hk1) ⟨W.few1,W.fewm,W.r0,W.rq,W.ord,W.nq,hasc,λx hx=>hlt x ((hmm x).mp hx),λx hx=>(hmm _).mpr (hcl x ((hmm x).mp hx))⟩ (by rw[hlen2];exact hsz) (hP8.same t5) ?_;exact(sx45.trans sx6).trans (Same.x (t1.trans (t2.trans (t3.trans (t4.trans t5)))))
end
end My
end
section
-- text: Q94m
namespace My
open PySem L2 Dg
noncomputable def WOk(p m t root n:Nat)(marks:List Nat)(ws:List (List Nat)):Prop:=∀w∈ws,w.length=n/\(∀x∈w,x<p^m)/\∀k∈marks,val p m t (pw p m t root k) w=0
theorem WOk.more{p m t root n:Nat}{marks:List Nat}(G:Good p m t){ws:List (List Nat)}{c:Nat}{part:List Nat}(h:WOk p m t root n marks ws)(hl:part.length=n)(hp:∀x∈part,x<p^m)(hz:∀k∈marks,val p m t (pw p m t root k) part=0):WOk p m t root n marks (ws.map λw=>addL p m w (zaB p m t c part)):=λv hv=>by
 obtain⟨w,hw,rfl⟩:=xAe.mp hv;obtain⟨h1,h2,h3⟩:=h w hw;have lp:(zaB p m t c part).length=n:=by simp[zaB];exact hl
 refine⟨ydL h1 lp,yem G _ _,λk hk=>?_⟩;have hx:=zaA (t:=t) G.hp G.hm root k;rw[ze5 G hx h1 lp h2 (ybQ G c part),h3 k hk,yd1 G hx hp,hz k hk,mul_zero G.hp G.hm,add_zero G.hp G.hm (yao G.hp G.hm)]
theorem zhw{α β:Type}{f g:α->List β}:∀ {l:List α},(∀a∈l,f a=g a)->l.flatMap f=l.flatMap g
 | [],_=>rfl
 |a::l,h=>by rw[List.flatMap_cons,List.flatMap_cons,h a (xAf ..),zhw λb hb=>h b (xAd _ hb)]
noncomputable def allK(cs:List Nat):Nat->List (List Nat)
 |0=>[[]]
 |k+1=>(allK cs k).flatMap λv=>cs.map λc=>v++[c]
theorem zcA(cs:List Nat):∀ {k:Nat} {v:List Nat},v∈allK cs k->v.length=k/\∀x∈v,x∈cs
 |0,v,h=>by cases xAJ.mp h;exact⟨rfl,λx hx=>nomatch hx⟩
 |k+1,v,h=>by
  obtain⟨u,hu,h2⟩:=List.mem_flatMap.mp h;obtain⟨c,hc,rfl⟩:=xAe.mp h2;obtain⟨h3,h4⟩:=zcA cs hu;refine⟨by rw[xAx,h3];rfl,λx hx=>?_⟩;rcases xAB.mp hx with hx|hx
  ·exact h4 x hx
  ·rw[xAJ.mp hx];exact hc
theorem zeV(cs:List Nat):∀ {k:Nat} {v:List Nat},v.length=k->(∀x∈v,x∈cs)->v∈allK cs k
 |0,v,h,_=>by rw[List.length_eq_zero_iff.mp h];exact xAJ.mpr rfl
 |k+1,v,h,hx=>by
  rcases List.eq_nil_or_concat v with rfl |⟨u,c,rfl⟩
  ·cases h
  ·rw[List.concat_eq_append]at h hx ⊢;rw[xAx,List.length_singleton]at h;exact List.mem_flatMap.mpr ⟨u,zeV cs () λx hx'=>hx x (xAG _ hx'),xAe.mpr ⟨c,hx c (xAb _ (xAJ.mpr rfl)),rfl⟩⟩
theorem yc4(p m t c:Nat)(xs:List Nat):zaB p m t c xs=xs.map (mul p m t c):=by
 unfold zaB;exact xAS (by simp) λi h1 h2=>by simp[List.getD,show i<xs.length by simpa using h2]
theorem zdA(p m:Nat)(xs ys:List Nat):sums p m xs ys=List.zipWith (add p m) xs ys:=by
 unfold sums;refine xAS (by simp) λi h1 h2=>?_
 have h3:i<xs.length/\i<ys.length:=by simpa[Nat.lt_min]using h2
 simp[List.getD,h3.1,h3.2]
section
variable {p m t few:Nat} (G:Good p m t)
include G
theorem zfg:∀ {v:List Nat},(∀x∈v,x<p^m)->List.zipWith (add p m) v (List.replicate v.length 0)=v
 | [],_=>rfl
 |x::v,h=>by
  rw[xB8,xBb,List.zipWith_cons_cons,add_zero G.hp G.hm (h x (xAf ..)),zfg λy hy=>h y (xAd _ hy)]
theorem yfQ{v:List Nat}{fr k c:Nat}(hv:v.length=k)(hk:k<fr)(hx:∀x∈v,x<p^m)(hc:c<p^m):sums p m (v++List.replicate (fr-k) 0) (zaB p m t c (unG fr k))=v++[c]++List.replicate (fr-(k+1)) 0:=by
 have hp:=G.hp;have hm:=G.hm;obtain⟨r,hr⟩:∃r,fr-k=r+1:=⟨fr-k-1,()⟩
 have z0:add p m 0 0=0:=add_zero hp hm (yao hp hm);rw[zdA,yc4];unfold unG;rw[show fr-k-1=r by omega,show fr-(k+1)=r by omega,hr,xA8,xA8,List.map_replicate,List.map_replicate,List.map_singleton,mul_zero hp hm,mul_one hp hm hc,List.append_assoc,List.append_assoc];rw[List.zipWith_append (by rw[xAq];exact hv)];congr 1
 ·rw[<-hv];exact zfg G hx
 ·rw[xBb];show add p m 0 c::List.zipWith (add p m) (List.replicate r 0) (List.replicate r 0)=c::List.replicate r 0;rw[zero_add hp hm hc,List.zipWith_replicate,z0,Nat.min_self]
theorem yeO{root n fr:Nat}{marks:List Nat}(hfr:fr+marks.length=n):∀k,k<=fr->WOk p m t root n marks (wdL p m t root marks few fr k)
 |0,_=>λu hu=>by
  have uz:∀x∈List.replicate fr 0,x<p^m:=λx hx=>by rw[xBe hx];exact yao G.hp G.hm
  cases xAJ.mp hu;exact⟨by rw[zcr G uz,xAq];omega,zdX G uz,λk hk=>ydB G uz hk⟩
 |k+1,hk=>λu hu=>by
  obtain⟨v,hv,h1⟩:=List.mem_flatMap.mp hu;obtain⟨y,hy,rfl⟩:=xAe.mp h1;obtain⟨c,_,rfl⟩:=xAe.mp hy;exact WOk.more G (c:=c) (yeO hfr k ()) (by rw[zcr G (zcw G),zdu ()];omega) (zdX G (zcw G)) (λk' hk'=>ydB G (zcw G) hk') _ (xAe.mpr ⟨v,hv,rfl⟩)
theorem zfT{root n fr:Nat}{marks:List Nat}(hfr:fr+marks.length=n):∀k,k<=fr->(wdL p m t root marks few fr k).map (List.drop marks.length)=(allK (lets p m t few) k).map λv=>v++List.replicate (fr-k) 0
 |0,_=>by
  have uz:∀x∈List.replicate fr 0,x<p^m:=λx hx=>by rw[xBe hx];exact yao G.hp G.hm
  show [_]=[_]
  rw[zdt G uz];rfl
 |k+1,hk=>by
  have ih:=zfT (root:=root) hfr k ();show((wdL p m t root marks few fr k).flatMap λu=>(mulR p m t root marks few fr k).map (sums p m u)).map (List.drop marks.length)=((allK (lets p m t few) k).flatMap λv=>(lets p m t few).map λc=>v++[c]).map λv=>v++List.replicate (fr-(k+1)) 0
  rw[List.map_flatMap,List.map_flatMap];have e1:((wdL p m t root marks few fr k).flatMap λu=>((mulR p m t root marks few fr k).map (sums p m u)).map (List.drop marks.length))=((wdL p m t root marks few fr k).map (List.drop marks.length)).flatMap λx=>(lets p m t few).map λc=>sums p m x (zaB p m t c (unG fr k)):=by
   rw[List.flatMap_map];refine zhw λu _=>?_
   unfold mulR;rw[List.map_map,List.map_map];refine xAE λc _=>?_
   show(sums p m u (zaB p m t c (mdL p m t root marks (unG fr k)))).drop marks.length=_;rw[zdA,zdA,List.drop_zipWith,yc4,yc4,<-List.map_drop,zdt G (zcw G)]
  rw[e1,ih,List.flatMap_map];refine zhw λv hv=>?_
  obtain⟨h1,h2⟩:=zcA _ hv;rw[List.map_map];exact xAE λc hc=>yfQ G h1 () (λx hx=>zdy x (h2 x hx)) (zdy c hc)
omit G in
theorem ygg{cs:List Nat}(h:cs.Nodup):∀k,(allK cs k).Nodup
 |0=>xBk.mpr ⟨(λh=>nomatch h),List.nodup_nil⟩
 |k+1=>by
  show List.Pairwise _ (List.flatMap _ _);rw[List.pairwise_flatMap];refine⟨λv _=>?_,List.Pairwise.imp_of_mem (λ{u v} hu hv ne x hx y hy e=>ne ?_) (ygg h k)⟩
  ·rw[List.pairwise_map];exact h.imp λne e=>ne (List.singleton_inj.mp (List.append_cancel_left e))
  ·obtain⟨c,_,rfl⟩:=xAe.mp hx;obtain⟨d,_,rfl⟩:=xAe.mp hy;exact(List.append_inj e (by rw[(zcA _ hu).1,(zcA _ hv).1])).1
omit G in
theorem zhB:(lets p m t few).Nodup:=List.nodup_range.filter _
theorem zfW{root n fr:Nat}{marks:List Nat}(hfr:fr+marks.length=n):(wdL p m t root marks few fr fr).map (List.drop marks.length)=allK (lets p m t few) fr:=by
 have eA:=zfT (few:=few) (root:=root) G hfr fr (xA4 _);rw[Nat.sub_self]at eA;rw[eA]
 conv=>rhs;rw[<-List.map_id (allK (lets p m t few) fr)]
 exact xAE λv _=>List.append_nil v
theorem ziF{root n fr:Nat}{marks:List Nat}(hfr:fr+marks.length=n):(wdL p m t root marks few fr fr).Nodup:=by
 have h:=ygg (zhB (p:=p) (m:=m) (t:=t) (few:=few)) fr;rw[<-zfW (root:=root) G hfr,List.Nodup,List.pairwise_map]at h;exact h.imp λne e=>ne (by rw[e])
theorem zh0{root n fr:Nat}{marks u:List Nat}(W:Whl p m t few root n marks)(hfr:fr+marks.length=n)(hl:u.length=n)(hx:∀x∈u,x∈lets p m t few)(hz:∀k∈marks,val p m t (pw p m t root k) u=0):u∈wdL p m t root marks few fr fr:=by
 have h1:u.drop marks.length∈allK (lets p m t few) fr:=zeV _ (by rw[List.length_drop];omega) λx h=>hx x (List.mem_of_mem_drop h)
 rw[<-zfW (root:=root) G hfr]at h1;obtain⟨v,hv,e⟩:=xAe.mp h1;have h2:=yeO (few:=few) (root:=root) G hfr fr (xA4 _) v hv;rw[<-yeQ G W hl () (λx h=>zdy x (hx x h)) hz,<-e,yeQ G W h2.1 () h2.2.1 h2.2.2];exact hv
theorem yhl{root n fr:Nat}{marks:List Nat}(W:Whl p m t few root n marks)(hfr:fr+marks.length=n):ownL p m t root n marks∈wdL p m t root marks few fr fr:=by
 have hlt:∀x∈ownL p m t root n marks,x<p^m:=ycf G;refine zh0 G W hfr (ybS _ _ _ _ _ _) (λx hx=>(zeG G (hlt x hx)).mpr (zhx G W x hx)) λk hk=>?_
 rw[yci G W.r0 W.rq W.ord (W.lt k hk),if_pos hk]
theorem ygw{root n fr:Nat}{marks e:List Nat}(W:Whl p m t few root n marks)(hfr:fr+marks.length=n)(he:e∈wdL p m t root marks few fr fr)(h:rp p m t e (ownL p m t root n marks)=ownL p m t root n marks):e=ownL p m t root n marks:=by
 have hp:=G.hp;have hm:=G.hm;have h2:=yeO (few:=few) (root:=root) G hfr fr (xA4 _) e he;have hk:=zcV G W h2.1 h2.2.1 h2.2.2;have hlt:∀x∈ownL p m t root n marks,x<p^m:=ycf G;have lo:=ybS p m t root n marks;refine zeB G W.r0 W.rq W.ord h2.1 lo h2.2.1 hlt λi hi=>?_
 have h1:pw p m t (pw p m t root i) n=1:=by rw[<-yaz hp hm,xAL,yaz hp hm,W.ord.one,za7 hp hm]
 have a1:=yeb G (zaA hp hm root i) h1 h2.1 lo h2.2.1 hlt;have a2:=yeb G (zaA hp hm root i) h1 lo h2.1 hlt h2.2.1;rw[h]at a1;rw[hk]at a2;rw[a1,mul_comm hp hm];exact a2
noncomputable def gAll(p m t:Nat)(os:List (List Nat))(e:List Nat):Bool:=os.all λo=>decide (rp p m t e o=o)
theorem zgK{root n fr:Nat}{marks:List Nat}{rs sel:List (List Nat)}(W:Whl p m t few root n marks)(hfr:fr+marks.length=n)(hP:rs.Perm (wdL p m t root marks few fr fr))(hs:∀o∈sel,o∈rs):(rs.filter (gAll p m t sel)).filter (gAll p m t rs)=[ownL p m t root n marks]:=by
 have ho:ownL p m t root n marks∈rs:=hP.mem_iff.mpr (yhl G W hfr);have hnd:rs.Nodup:=hP.nodup_iff.mpr (ziF G hfr);rw[List.filter_filter];have e:rs.filter (λa=>gAll p m t rs a&&gAll p m t sel a)=rs.filter (λa=>a==ownL p m t root n marks):=by
  refine List.filter_congr λa ha=>?_
  rw[Bool.eq_iff_iff,xAv,beq_iff_eq];have hok:∀o∈rs,rp p m t (ownL p m t root n marks) o=o:=λo h=>by
   have h2:=yeO (few:=few) (root:=root) G hfr fr (xA4 _) o (hP.mem_iff.mp h);exact zcV G W h2.1 h2.2.1 h2.2.2
  constructor
  ·rintro⟨h1,_⟩;exact ygw G W hfr (hP.mem_iff.mp ha) (xAh (xAT.mp h1 _ ho))
  ·rintro rfl;exact⟨xAT.mpr λo h=>xAz (hok o h),xAT.mpr λo h=>xAz (hok o (hs o h))⟩
 rw[e];have h1:=hnd.count (a:=ownL p m t root n marks);rw[if_pos ho]at h1;have:(rs.filter (λa=>a==ownL p m t root n marks))=List.replicate (rs.count (ownL p m t root n marks)) (ownL p m t root n marks):=List.filter_beq ..;rw[this,h1];rfl
end
theorem yhY{p m t r n:Nat}{xs ys:List Nat}(G:Good p m t)(hr:r<p^m)(o:Ord p m t r n)(lx:xs.length=n)(ly:ys.length=n)(hx:∀x∈xs,x<p^m)(hy:∀x∈ys,x<p^m):dft p m t r (rp p m t xs ys)=(List.range n).map λi=>mul p m t ((dft p m t r xs).getD i 0) ((dft p m t r ys).getD i 0):=by
 have hp:=G.hp;have hm:=G.hm;have lr:(rp p m t xs ys).length=n:=by simp[rp,lx]
 unfold dft;rw[lr,lx,ly];refine xAE λi hi=>?_
 have hi:=xAu.mp hi;have h1:pw p m t (pw p m t r i) n=1:=by rw[<-yaz hp hm,xAL,yaz hp hm,o.one,za7 hp hm]
 rw[rget hi,rget hi,yeb G (zaA hp hm _ _) h1 lx ly hx hy]
end My
end
section
-- text: Q94c
namespace My
open PySem L2 Dg
section
variable {P:Program} {w:World} {K:PySem.W.Frag} {mg:Str->Option Value} {base:Heap} {f:Addr} {fd:FuncData}
noncomputable def ye9(K:PySem.W.Frag):Sp:=λvs H Q _=>∃(fa tb pa la oa ob:Addr) (p m t b root n:Nat) (xs ys:List Nat),vs=[.ref fa,Vn root,.ref tb,.ref oa,.ref ob]/\Tab H tb fa pa la p m t b/\0<root/\root<p^m/\Ord p m t root n/\n<=64/\SqT K H oa (xs.map Vn)/\SqT K H ob (ys.map Vn)/\xs.length=n/\ys.length=n/\(∀x∈xs,x<p^m)/\(∀x∈ys,x<p^m)/\∀H',Same H H'->Q (.bl true) H'
theorem zaM:yah ["_law_field_here","_law_root","_law_table_here","_law_one","_law_other","_law_both","_law_due"] ["_law_field_here","_law_root","_law_table_here","_law_one","_law_other"] (zae zay):=⟨rfl,rfl,rfl,∅,rfl,∅,∅⟩
theorem zgZ(B:Bl mg)(xCf:Has P w K mg base 6 "turned" ["field","root","row"] (zgp K))(xCg:Has P w K mg base 7 "turned_back" ["field","root","row"] (yeE K))(xBO:Has P w K mg base 1 "_law_times" ["_law_table_here","_law_one","_law_other"] yb5)(xC8:Has P w K mg base 4 "round_product" ["field","one","other"] (zhS K))(F:Fun K "_law_turned_right" "_law_turned_right" zay f fd):FnOk P w K mg base CX0 8 f fd ["_law_field_here","_law_root","_law_table_here","_law_one","_law_other"] (ye9 K):=by
 refine F.ok zaM (λvs H Q E h=>?_) (λcdv A outer s H vs Q E hr h=>?_)
 ·obtain⟨fa,tb,pa,la,oa,ob,p,m,t,b,root,n,xs,ys,rfl,_⟩:=h;rfl
 obtain⟨fa,tb,pa,la,oa,ob,p,m,t,b,root,n,xs,ys,rfl,T,r0,hrt,o,hn,ha,hb,lx,ly,hx,hy,q⟩:=h;have G:=T.good;have hF:Fld K H fa p m t:=SqT.of T.f;refine⟨_,(yaa (@ych _ 5 _ _ _ _ _ _ _ _ _ ["_law_row_here"] ["_law_field_here","_law_root"] [0,1] _ _ _ _ zaM.nd rfl (Or.inl rfl) (id (α:=CSc ["_law_field_here","_law_root","_law_table_here","_law_one","_law_other","_law_both","_law_due"] (zae zay) ["_law_row_here"] ["_law_field_here","_law_root"] [0,1] _) ⟨by rfl,∅,∅,∅,∅,by rfl,∅⟩) rfl (@yb9 _ _ _ _ (@zaV _ _ _ _ _ (zaa (pv 3) (zaa (pv 4) zab ⋯) ⋯))) (λcl C fp s H=>(@yae _ _ 0 _ (by show List.Nodup (["_law_row_here","_law_field_here","_law_root"]:List Str);decide +kernel) rfl (Or.inl rfl) (by trivial))) (λ_ _ _ _ _=>yaD) (λ_ _ _ _ _=>(zad xCf hr #[] rfl (zaa (pv 1) (zaa (pv 2) (zaa (pv 0) zab ⋯) ⋯) ⋯) #[] ⋯ ⋯)) ⋯ (by intro _;rfl) (by trivial)) (yaa (@yaS _ _ _ _ _ _ _ _ (@PW.pt _ _ _ (@yfp _ _ _ _ _ _ _ (@zai _ _ _ _ _ _ _ _ (zfO hr.units0) (zad xCg hr #[] rfl (zaa (pv 0) (zaa (pv 1) (zaa (zao yan (pv 5) yac (λ_ _=>rfl)) zab ⋯) ⋯) ⋯) #[] ⋯ ⋯) (pv 3) (yaj _)) (@zde _ _ _ _ (@zai _ _ _ _ _ _ _ _ (zfO hr.units0) (zad xCf hr #[] rfl (zaa (pv 0) (zaa (pv 1) (zaa (zad xCg hr #[] rfl (zaa (pv 0) (zaa (pv 1) (zaa (pv 3) zab ⋯) ⋯) ⋯) #[] ⋯ ⋯) zab ⋯) ⋯) ⋯) #[] ⋯ ⋯) (pv 3) (yaj _))))) (yad (@yai _ _ _ _ yeA)) zas) (yaa (@yaf _ _ 6 _ _ _ _ zaM.nd rfl (Or.inl rfl) (yaq yap rfl (B "tuple" #[]) zap (zaa (@zaI _ _ _ _ _ _ _ ["_law_a","_law_b"] ["_law_table_here"] [2] _ _ _ _ (id (α:=CSc ["_law_field_here","_law_root","_law_table_here","_law_one","_law_other","_law_both","_law_due"] (zae zay) ["_law_a","_law_b"] ["_law_table_here"] [2] _) ⟨by rfl,∅,∅,∅,∅,by rfl,∅⟩) rfl (@yg7 _ _ _ _ _ _ _ _ _ rfl (B "zip" #[]) (zaa (zao yan (pv 5) yac (λ_ _=>rfl)) (zaa (zao yan (pv 5) yac (λ_ _=>rfl)) zab ⋯) ⋯) ⋯ ⋯) (λcl C fp s H=>(@yen _ _ _ _ 2 _ K rfl rfl (yag (@yae _ _ 0 _ (by show List.Nodup (["_law_a","_law_b","_law_table_here"]:List Str);decide +kernel) rfl (Or.inl rfl) (by trivial)) (yag (@yae _ _ 1 _ (by show List.Nodup (["_law_a","_law_b","_law_table_here"]:List Str);decide +kernel) rfl (Or.inl rfl) (by trivial)) yaE ⋯) ⋯) ⋯ ⋯)) (λ_ _ _ _ _=>yaD) (λ_ _ _ _ _=>(zad xBO hr #[] rfl (zaa (pv 2) (zaa (pv 0) (zaa (pv 1) zab ⋯) ⋯) ⋯) #[] ⋯ ⋯)) (by intro _;rfl)) zab ⋯) #[] #[] ⋯ ⋯) ⋯ (by trivial)) (yad (@yai _ _ _ _ (@ybg _ _ _ _ _ _ _ _ (zfQ hr.units0) (zad xCf hr #[] rfl (zaa (pv 0) (zaa (pv 1) (zaa (zad xC8 hr #[] rfl (zaa (pv 0) (zaa (pv 3) (zaa (pv 4) zab ⋯) ⋯) ⋯) #[] ⋯ ⋯) zab ⋯) ⋯) ⋯) #[] ⋯ ⋯) (pv 6) (yaj _))))))),?_⟩;refine⟨_,rfl,_,rfl,szl 2,λtp htp=>?_⟩;have s1:=zac htp (.tup [.ref oa,.ref ob]);have et:upd H tp (.tup [.ref oa,.ref ob]) tp=some (.tup [.ref oa,.ref ob]):=yab
 generalize upd H tp (.tup [.ref oa,.ref ob])=H1 at s1 et ⊢;refine⟨tp,rfl,⟨_,SqT.of et⟩,?_⟩;refine zav (za9 (xs:=[V.ref oa,V.ref ob])) (λi acc H'=>Same H1 H'/\∃ds:List Addr,acc=ds.map V.ref/\ds.length=i/\(∀d,ds[0]?=some d->H' d=some (.tup ((dft p m t root xs).map Vn)))/\(∀d,ds[1]?=some d->H' d=some (.tup ((dft p m t root ys).map Vn)))) ⟨Same.refl _,[],rfl,rfl,(λd e=>by simp at e),(λd e=>by simp at e)⟩ (λi acc H' _ h=>SqT.of (h.1 _ _ et)) ?_ ?_ ?_
 ·rintro i acc H' hi ⟨_,ds,rfl,hl,_⟩;rw[xA1,hl];exact zal (by simp at hi;omega)
 ·rintro i acc x H2o H2 hi ⟨s2,ds,rfl,hl,h0,h1⟩ ⟨rfl,ex⟩;have hi2:i=0\/i=1:=by simp at hi;omega
  dsimp only[yaw];rcases hi2 with rfl|rfl
  ·cases ex;refine⟨_,rfl,_,rfl,_,rfl,fa,oa,p,m,t,root,xs,rfl,Same.tup (s1.trans s2) hF,G,r0,hrt,Same.tup (s1.trans s2) ha,(),hx,λd H3 s3 nd ed=>?_⟩;cases ds with
   |nil=>exact⟨s2.trans s3,[d],rfl,rfl,λd' e=>by cases e;exact ed,λd' e=>by simp at e⟩
   |cons _ _=>cases hl
  ·cases ex;refine⟨_,rfl,_,rfl,_,rfl,fa,ob,p,m,t,root,ys,rfl,Same.tup (s1.trans s2) hF,G,r0,hrt,Same.tup (s1.trans s2) hb,(),hy,λd H3 s3 nd ed=>?_⟩;rcases ds with _ |⟨d0,_ |⟨_,_⟩⟩
   ·cases hl
   ·exact⟨s2.trans s3,[d0,d],rfl,rfl,λd' e=>by cases e;exact s3 _ _ (h0 _ rfl),λd' e=>by cases e;exact ed⟩
   ·cases hl
 ·rintro acc H2 ⟨s2,ds,rfl,hl,h0,h1⟩ D hD;obtain⟨d0,d1,rfl⟩:∃d0 d1,ds=[d0,d1]:=by
   rcases ds with _ |⟨d0,_ |⟨d1,_ |⟨_,_⟩⟩⟩
   ·cases hl
   ·cases hl
   ·exact⟨d0,d1,rfl⟩
   ·cases hl
  have e0:=h0 d0 rfl;have e1:=h1 d1 rfl;have s3:=zac hD (.lst [.ref d0,.ref d1]);have eD:upd H2 D (.lst [.ref d0,.ref d1]) D=some (.lst [.ref d0,.ref d1]):=yab;have e0:=s3 _ _ e0;have e1:=s3 _ _ e1;have s4:=s1.trans (s2.trans s3);change tSeq _ _ _ _ (upd H2 D (.lst [.ref d0,.ref d1]));generalize upd H2 D (.lst [.ref d0,.ref d1])=H4 at eD e0 e1 s4 ⊢;have xI:xs.map Vn=(xs.map λx:Nat=>(x:Int)).map V.int:=by rw[mapI]
  refine⟨_,rfl,_,rfl,_,rfl,D,_,_,.ref d0,rfl,rfl,SqL.of eD,rfl,fa,d0,p,m,t,root,n,dft p m t root xs,rfl,Same.tup s4 hF,G,r0,hrt,o,by rw[ya5];exact lx,SqT.of e0,hn,ydj G _ _,λdb H5 s5 nd5 e5=>?_⟩;rw[zhl G r0 hrt o lx hx]at e5;have no:∀L:List Int,¬ (if true=true then !decide (L=L) else decide (L=L))=true:=λL=>by simp
  refine⟨_,rfl,db,oa,xs.map (λx:Nat=>(x:Int)),xs.map (λx:Nat=>(x:Int)),rfl,rfl,by rw[mapI];exact SqT.of e5,by rw[mapI];exact Same.tup (s4.trans s5) ha,_,rfl,?_⟩;refine ite2 (λc=>absurd c (no _)) (λ_=>?_);have s6:=s4.trans s5;refine⟨_,rfl,_,rfl,_,rfl,_,rfl,_,rfl,fa,oa,p,m,t,root,n,xs,rfl,Same.tup s6 hF,G,r0,hrt,o,lx,Same.tup s6 ha,hn,hx,λd3 H6 s7 nd3 e6=>?_⟩;have s8:=s6.trans s7;refine⟨fa,d3,p,m,t,root,zc9 p m t root n xs,rfl,Same.tup s8 hF,G,r0,hrt,SqT.of e6,by rw[zdv];omega,ycf G,λd4 H7 s9 nd4 e7=>?_⟩;rw[ye7 G r0 hrt o lx hx]at e7;have s10:=s8.trans s9;refine⟨_,rfl,d4,oa,xs.map (λx:Nat=>(x:Int)),xs.map (λx:Nat=>(x:Int)),rfl,rfl,by rw[mapI];exact SqT.of e7,by rw[mapI];exact Same.tup s10 ha,_,rfl,?_⟩;refine ite2 (λc=>absurd c (no _)) (λ_=>?_);have t10:=s5.trans (s7.trans s9);have eD:=t10 _ _ eD;have e0:=t10 _ _ e0;have e1:=t10 _ _ e1;dsimp only[zeh];have lX:=ya5 (p:=p) (m:=m) (t:=t) root xs;have lY:=ya5 (p:=p) (m:=m) (t:=t) root ys;have hX:=ydj G root xs;have hY:=ydj G root ys;have hdue:=yhY G hrt o lx ly hx hy;generalize dft p m t root xs=X at e0 lX hX hdue;generalize dft p m t root ys=Y at e1 lY hY hdue;refine⟨_,rfl,D,_,_,.ref d0,rfl,rfl,SqL.of eD,rfl,_,rfl,D,_,_,.ref d1,rfl,rfl,SqL.of eD,rfl,true,true,d0,d1,rfl,⟨_,SqT.of e0⟩,⟨_,SqT.of e1⟩,?_⟩;refine zav (zeZ (xs:=X.map Vn) (ys:=Y.map Vn)) (λk acc H'=>Same H7 H'/\acc=((List.range k).map λi=>mul p m t (X.getD i 0) (Y.getD i 0)).map Vn) ⟨Same.refl _,rfl⟩ (λi acc H' _ h=>⟨SqT.of (h.1 _ _ e0),SqT.of (h.1 _ _ e1)⟩) ?_ ?_ ?_
  ·rintro k acc H' hk ⟨_,rfl⟩;rw[xA1,xA1]at hk;rw[xA1,xA1,xAt];exact zal ()
  ·rintro k acc z Ha Hb hk ⟨sa,rfl⟩ ⟨Tt,u,v,rfl,eu,ev,hT,rfl⟩;rw[xA1,xA1]at hk;rw[yay ()]at eu ev;cases eu;cases ev;refine⟨Tt,_,rfl,SqT.of yab,rfl,_,_,rfl,_,_,rfl,rfl,?_⟩;have sb:=sa.trans (zac hT (.tup [Vn (X.getD k 0),Vn (Y.getD k 0)]));refine⟨_,rfl,_,rfl,_,rfl,tb,fa,pa,la,p,m,t,b,X.getD k 0,Y.getD k 0,rfl,T.same (s10.trans sb),yaM hX (),yaM hY (),?_⟩;refine⟨sb,?_⟩;rw[xBa,xA8,xA8];rfl
  ·rw[xA1,xA1,lX,lY,lx,ly,Nat.min_self,<-hdue];rintro acc H8 ⟨s11,rfl⟩ D2 hD2;have s12:=s11.trans (zac hD2 (.lst ((dft p m t root (rp p m t xs ys)).map Vn)));refine⟨D2,_,rfl,.inl ⟨SqL.of yab,λdu hdu=>?_⟩⟩;have s13:=s10.trans (s12.trans (zac hdu (.tup ((dft p m t root (rp p m t xs ys)).map Vn))));have edu:upd (upd H8 D2 (.lst ((dft p m t root (rp p m t xs ys)).map Vn))) du (.tup ((dft p m t root (rp p m t xs ys)).map Vn)) du=some (.tup ((dft p m t root (rp p m t xs ys)).map Vn)):=yab;dsimp only[yaw];generalize upd (upd H8 D2 (.lst ((dft p m t root (rp p m t xs ys)).map Vn))) du (.tup ((dft p m t root (rp p m t xs ys)).map Vn))=H9 at s13 edu ⊢;have hn0:=o.pos;refine⟨_,rfl,_,rfl,_,rfl,_,rfl,_,rfl,fa,oa,ob,p,m,t,xs,ys,rfl,Same.tup s13 hF,G,Same.tup s13 ha,Same.tup s13 hb,(),(),(),hx,hy,λd5 H10 s14 nd5 e10=>?_⟩;have lr:(rp p m t xs ys).length=n:=by simp[rp,lx]
   refine⟨fa,d5,p,m,t,root,rp p m t xs ys,rfl,Same.tup (s13.trans s14) hF,G,r0,hrt,SqT.of e10,(),zgw G.hp G.hm _ _,λd6 H11 s15 nd6 e11=>?_⟩;generalize dft p m t root (rp p m t xs ys)=Z at edu e11;refine⟨_,rfl,d6,du,Z.map (λx:Nat=>(x:Int)),Z.map (λx:Nat=>(x:Int)),rfl,rfl,by rw[mapI];exact SqT.of e11,by rw[mapI];exact SqT.of (s15 _ _ (s14 _ _ edu)),?_⟩;have e:(if false=true then !decide (Z.map (λx:Nat=>(x:Int))=Z.map (λx:Nat=>(x:Int))) else decide (Z.map (λx:Nat=>(x:Int))=Z.map (λx:Nat=>(x:Int))))=true:=by simp
   rw[e];exact q _ (s13.trans (s14.trans s15))
end
end My
end
section
-- text: Q94d
namespace My
open PySem L2 Dg
theorem yin{K:PySem.W.Frag}{H:Hp}{l d:Addr}{zs xs:List V}{o:HO}(hl:H l=some (.lst zs))(h:SqT K H d xs):SqT K (upd H l o) d xs:=by
 rcases h with(h |⟨o',h⟩)|h
 ·exact .inl (.inl (by rw[zah (λe=>by rw[e,hl]at h;cases h)];exact h))
 ·exact .inl (.inr ⟨o',by rw[zah (λe=>by rw[e,hl]at h;cases h)];exact h⟩)
 ·exact .inr h
theorem Rws.atL{K:PySem.W.Frag}{H:Hp}{l:Addr}{zs:List V}{o:HO}(hl:H l=some (.lst zs)):∀ {ds:List Addr} {rs:List (List Nat)},Rws K H ds rs->Rws K (upd H l o) ds rs
 | [],[],_=>trivial
 |_::_,_::_,h=>⟨yin hl h.1,Rws.atL hl h.2⟩
 | [],_::_,h=>h.elim
 |_::_,[],h=>h.elim
theorem Rws.drop{K:PySem.W.Frag}{H:Hp}:∀(n:Nat) {ds:List Addr} {rs:List (List Nat)},Rws K H ds rs->Rws K H (ds.drop n) (rs.drop n)
 |0,_,_,h=>h
 |n+1,[],[],_=>trivial
 |n+1,_::_,_::_,h=>Rws.drop n h.2
 |_+1,[],_::_,h=>h.elim
 |_+1,_::_,[],h=>h.elim
theorem Rws.take{K:PySem.W.Frag}{H:Hp}:∀(n:Nat) {ds:List Addr} {rs:List (List Nat)},Rws K H ds rs->Rws K H (ds.take n) (rs.take n)
 |0,_,_,_=>trivial
 |n+1,[],[],_=>trivial
 |n+1,_::_,_::_,h=>⟨h.1,Rws.take n h.2⟩
 |_+1,[],_::_,h=>h.elim
 |_+1,_::_,[],h=>h.elim
noncomputable def cutR(rs:List (List Nat))(lo hi:Option Int):List (List Nat):=(rs.drop (HT.sIx rs.length 0 lo)).take (HT.sIx rs.length rs.length hi-HT.sIx rs.length 0 lo)
theorem zeR{rs:List (List Nat)}{lo hi:Option Int}:∀o∈cutR rs lo hi,o∈rs:=λo ho=>List.mem_of_mem_drop (List.mem_of_mem_take ho)
theorem yeT(rs:List (List Nat))(lo hi:Option Int):(cutR rs lo hi).length<=rs.length:=by unfold cutR;rw[xAH,List.length_drop];omega
theorem zhe{K:PySem.W.Frag}{H:Hp}{a:Addr}{ds:List Addr}{rs:List (List Nat)}{lo hi:Option Int}{Q:VK}(h:SqT K H a (ds.map V.ref))(hR:Rws K H ds rs)(q:∀(r:Addr) (es:List Addr) H',Same H H'->SqT K H' r (es.map V.ref)->Rws K H' es (cutR rs lo hi)->Q (.ref r) H'):rSlA K (.ref a) lo hi H Q:=by
 have e:cutV (ds.map V.ref) lo hi=((ds.drop (HT.sIx rs.length 0 lo)).take (HT.sIx rs.length rs.length hi-HT.sIx rs.length 0 lo)).map V.ref:=by
  unfold cutV;rw[xA1,hR.len,List.map_take,List.map_drop]
 have hR2:Rws K H _ (cutR rs lo hi):=(hR.drop (HT.sIx rs.length 0 lo)).take (HT.sIx rs.length rs.length hi-HT.sIx rs.length 0 lo);refine⟨a,_,rfl,h,λe2=>?_,λl hl1=>?_⟩
 ·rw[e]at e2;exact q a _ H (Same.refl _) (by rw[e2];exact h) hR2
 ·rw[e];exact q l _ _ (zac hl1 _) (SqT.of yab) (hR2.same (zac hl1 _))
theorem yhD{K:PySem.W.Frag}{H:Hp}{a b:Addr}{xs:List Nat}(ha:SqT K H a (xs.map Vn))(hb:SqT K H b (xs.map Vn))(hl:xs.length<=500):Eqv K H 2 (.ref a) (.ref b):=by
 refine .inr (.inr ⟨a,b,_,_,rfl,rfl,ha,hb,rfl,by rw[xA1];exact hl,λi x y ex ey=>?_⟩);rw[ex]at ey;cases ey;rw[xA9]at ex;cases e:xs[i]? with
 |none=>rw[e]at ex;cases ex
 |some v=>rw[e]at ex;cases ex;exact .inl ⟨_,rfl,rfl⟩
theorem yeS(p m t:Nat)(os:List (List Nat))(e:List Nat):(os.map λo=>decide (rp p m t e o=o)).all id=gAll p m t os e:=by
 unfold gAll;rw[List.all_map];rfl
section
variable {P:Program} {w:World} {K:PySem.W.Frag} {mg:Str->Option Value} {base:Heap} {f:Addr} {fd:FuncData}
noncomputable def zfP(K:PySem.W.Frag):Sp:=λvs H Q _=>∃(tb fa pa la wh mk oa:Addr) (p m t b few root n:Nat) (marks xs:List Nat),vs=[.ref fa,.ref tb,.ref wh,.ref oa]/\Tab H tb fa pa la p m t b/\WhAt H wh fa mk few root marks/\Whl p m t few root n marks/\n<=63/\(p^few)^(n-marks.length)<=32/\H oa=some (.tup (xs.map Vn))/\xs.length=n/\(∀x∈xs,x<p^m)/\∀H',Same H H'->Q (.bl true) H'
theorem zat:yah ["_law_field_here","_law_table_here","_law_wheel_here","_law_one","_law_every","_law_own","_law_found","_law_row_here","_law_left"] ["_law_field_here","_law_table_here","_law_wheel_here","_law_one"] (zae yaA):=⟨rfl,rfl,rfl,∅,rfl,∅,∅⟩
theorem zhI(B:Bl mg)(xCl:Has P w K mg base 9 "words" ["wheel"] (zfc K))(xC4:Has P w K mg base 8 "own_word" ["wheel"] (yhd K))(xC8:Has P w K mg base 4 "round_product" ["field","one","other"] (zhS K))(xBQ:Has P w K mg base 2 "_law_value" ["_law_table_here","_law_row_here","_law_one"] (ye6 K))(xBG:Has P w K mg base 1 "_law_power" ["_law_table_here","_law_one","_law_many"] zeX)(F:Fun K "_law_own_right" "_law_own_right" yaA f fd):FnOk P w K mg base CX0 10 f fd ["_law_field_here","_law_table_here","_law_wheel_here","_law_one"] (zfP K):=by
 refine F.ok zat (λvs H Q E h=>?_) (λcdv A outer s H vs Q E hr h=>?_)
 ·obtain⟨tb,fa,pa,la,wh,mk,oa,p,m,t,b,few,root,n,marks,xs,rfl,_⟩:=h;rfl
 obtain⟨tb,fa,pa,la,wh,mk,oa,p,m,t,b,few,root,n,marks,xs,rfl,T,hW,W,hn,hz,hoa,lx,hx,q⟩:=h;have G:=T.good;have hp:=G.hp;have hm:=G.hm;have hn0:=W.ord.pos;have hF:Fld K H fa p m t:=T.fld;have hfm:few<=m:=Nat.le_of_dvd () (xAV W.fewm);have hqq:p^few<=64:=xAM (xB6 () hfm) G.hq;have hml:marks.length<=n:=zdG n marks (W.asc.imp λh=>by omega) W.lt;obtain⟨fr,hfr⟩:∃fr,fr+marks.length=n:=⟨n-marks.length,()⟩
 rw[show n-marks.length=fr by omega]at hz;refine⟨_,(yaa (@zbI _ _ 4 5 _ _ _ _ _ _ _ _ _ _ _ rfl zat.nd rfl rfl #[] rfl rfl (zaa (zad xCl hr #[] rfl (zaa (pv 2) zab ⋯) #[] ⋯ ⋯) (zaa (zad xC4 hr #[] rfl (zaa (pv 2) zab ⋯) #[] ⋯ ⋯) zab ⋯) ⋯) rfl ⋯) (yaa (@yaf _ _ 6 _ _ _ _ zat.nd rfl (Or.inl rfl) (@yaI _ _ _ _ zab) ⋯ (by trivial)) (yaa (@zaF _ _ _ _ _ _ _ _ xAi rfl (@yb9 _ _ _ _ (pv 4)) (@yae _ _ 7 _ zat.nd rfl (Or.inr rfl) (by trivial)) (yad (@yaS _ _ _ _ _ _ _ _ (@zdj _ _ _ (zam (zcB rfl) rfl (B "all" #[]) PyProof.Rows.boot_all (zaa (@zaI _ _ _ _ _ _ _ ["_law_other"] ["_law_field_here","_law_row_here"] [0,7] _ _ _ _ (id (α:=CSc ["_law_field_here","_law_table_here","_law_wheel_here","_law_one","_law_every","_law_own","_law_found","_law_row_here","_law_left"] (zae yaA) ["_law_other"] ["_law_field_here","_law_row_here"] [0,7] _) ⟨by rfl,∅,∅,∅,∅,by rfl,∅⟩) rfl (@yb9 _ _ _ _ (zag zco (@zbT _ _ _ _ _ _ _ _ _ _ zdM (pv 4) zch (@zck _ _ _ yac)) (@zbT _ _ _ _ _ _ _ _ _ _ zdM (pv 4) (@zck _ _ _ (@yet _ _ _ _ _ _ ycX yac)) zch))) (λcl C fp s H=>(@yae _ _ 0 _ (by show List.Nodup (["_law_other","_law_field_here","_law_row_here"]:List Str);decide +kernel) rfl (Or.inl rfl) (by trivial))) (λ_ _ _ _ _=>yaD) (λ_ _ _ _ _=>(@ybg _ _ _ _ _ _ _ _ (zf8 (K:=K) rfl hr.units0) (zad xC8 hr #[] rfl (zaa (pv 1) (zaa (pv 2) (zaa (pv 0) zab ⋯) ⋯) ⋯) #[] ⋯ ⋯) (pv 0) (yaj _))) (by intro _;rfl)) zab ⋯) #[] #[] ⋯ ⋯) (by intro _;rfl)) (yad (@zbM _ _ _ _ (@ydV _ _ _ _ _ _ _ _ _ _ _ _ xBg xBn xBm zbc (pv 6) (zaa (pv 7) zab ⋯) ⋯ ⋯ ⋯ ⋯ ⋯) ⋯)) zas)) (by intro _;rfl)) (yaa (@yaf _ _ 8 _ _ _ _ zat.nd rfl (Or.inl rfl) (@yaI _ _ _ _ zab) ⋯ (by trivial)) (yaa (@zaF _ _ _ _ _ _ _ _ xAi rfl (@ybc _ _ _ _ (pv 6)) (@yae _ _ 7 _ zat.nd rfl (Or.inr rfl) (by trivial)) (yad (@yaS _ _ _ _ _ _ _ _ (@zdj _ _ _ (zam (zcB rfl) rfl (B "all" #[]) PyProof.Rows.boot_all (zaa (@zaI _ _ _ _ _ _ _ ["_law_other"] ["_law_field_here","_law_row_here"] [0,7] _ _ _ _ (id (α:=CSc ["_law_field_here","_law_table_here","_law_wheel_here","_law_one","_law_every","_law_own","_law_found","_law_row_here","_law_left"] (zae yaA) ["_law_other"] ["_law_field_here","_law_row_here"] [0,7] _) ⟨by rfl,∅,∅,∅,∅,by rfl,∅⟩) rfl (@yb9 _ _ _ _ (pv 4)) (λcl C fp s H=>(@yae _ _ 0 _ (by show List.Nodup (["_law_other","_law_field_here","_law_row_here"]:List Str);decide +kernel) rfl (Or.inl rfl) (by trivial))) (λ_ _ _ _ _=>yaD) (λ_ _ _ _ _=>(@ybg _ _ _ _ _ _ _ _ (zf8 (K:=K) rfl hr.units0) (zad xC8 hr #[] rfl (zaa (pv 1) (zaa (pv 2) (zaa (pv 0) zab ⋯) ⋯) ⋯) #[] ⋯ ⋯) (pv 0) (yaj _))) (by intro _;rfl)) zab ⋯) #[] #[] ⋯ ⋯) (by intro _;rfl)) (yad (@zbM _ _ _ _ (@ydV _ _ _ _ _ _ _ _ _ _ _ _ xBg xBn xBm zbc (pv 8) (zaa (pv 7) zab ⋯) ⋯ ⋯ ⋯ ⋯ ⋯) ⋯)) zas)) (by intro _;rfl)) (yaa (@yaS _ _ _ _ _ _ _ _ (@PW.pt _ _ _ (@yfp _ _ _ _ _ _ _ (@zai _ _ _ _ _ _ _ _ (yhG hr.units) (pv 8) (@yaI _ _ _ _ (zaa (pv 5) zab ⋯)) (yaj _)) (@zde _ _ _ _ (@zai _ _ _ _ _ _ _ _ (zfO hr.units0) (zad xC8 hr #[] rfl (zaa (pv 0) (zaa (pv 5) (zaa (pv 5) zab ⋯) ⋯) ⋯) #[] ⋯ ⋯) (pv 5) (yaj _))))) (yad (@yai _ _ _ _ yeA)) zas) (yaa (@yaf _ _ 7 _ _ _ _ zat.nd rfl (Or.inr rfl) (zad xC8 hr #[] rfl (zaa (pv 0) (zaa (pv 5) (zaa (pv 3) zab ⋯) ⋯) ⋯) #[] ⋯ ⋯) ⋯ (by trivial)) (yad (@yai _ _ _ _ (zam (zcB rfl) rfl (B "all" #[]) PyProof.Rows.boot_all (zaa (@zaI _ _ _ _ _ _ _ ["_law_i"] ["_law_table_here","_law_row_here","_law_wheel_here"] [1,7,2] _ _ _ _ (id (α:=CSc ["_law_field_here","_law_table_here","_law_wheel_here","_law_one","_law_every","_law_own","_law_found","_law_row_here","_law_left"] (zae yaA) ["_law_i"] ["_law_table_here","_law_row_here","_law_wheel_here"] [1,7,2] _) ⟨by rfl,∅,∅,∅,∅,by rfl,∅⟩) rfl (@yb9 _ _ _ _ (zao zax (pv 2) yac (λ_ _=>rfl))) (λcl C fp s H=>(@yae _ _ 0 _ (by show List.Nodup (["_law_i","_law_table_here","_law_row_here","_law_wheel_here"]:List Str);decide +kernel) rfl (Or.inl rfl) (by trivial))) (λ_ _ _ _ _=>yaD) (λ_ _ _ _ _=>(@ybg _ _ _ _ _ _ _ _ za4 (zad xBQ hr #[] rfl (zaa (pv 1) (zaa (pv 2) (zaa (zad xBG hr #[] rfl (zaa (pv 1) (zaa (zao (ydG (K:=K) rfl) (pv 3) yac (λ_ _=>rfl)) (zaa (pv 0) zab ⋯) ⋯) ⋯) #[] ⋯ ⋯) zab ⋯) ⋯) ⋯) #[] ⋯ ⋯) yac (yaj _))) (by intro _;rfl)) zab ⋯) #[] #[] ⋯ ⋯)))))))))),?_⟩
 refine⟨_,rfl,wh,fa,mk,p,m,t,few,root,n,fr,marks,rfl,⟨hW,hF,G,W.r0,W.rq,W.ord,hfr,(),W.fewm,W.few1,hqq⟩,(),λev ds rs H1 s1 eev hR hP=>?_⟩;refine⟨_,rfl,wh,fa,mk,p,m,t,few,root,n,marks,rfl,hW.same s1,Same.tup s1 hF,G,W.r0,W.rq,W.ord,(),λow H2 s2 now eow=>?_⟩;have hev:=Same.tup s2 eev;have hR2:=hR.same s2;have s12:=s1.trans s2;have wl:rs.length<=32:=by rw[hP.length_eq,zcZ,yfz G W.fewm W.few1];exact hz
 have wr:∀u∈rs,u.length=n/\∀x∈u,x<p^m:=λu hu=>zek G hfr fr (xA4 _) u (hP.mem_iff.mp hu)
 have lo:=ybS p m t root n marks;have hlo:∀x∈ownL p m t root n marks,x<p^m:=ycf G;have hoo:rp p m t (ownL p m t root n marks) (ownL p m t root n marks)=ownL p m t root n marks:=zcV G W lo hlo λk hk=>by rw[yci G W.r0 W.rq W.ord (W.lt k hk),if_pos hk]
 have hval:∀k∈marks,val p m t (pw p m t root k) (rp p m t (ownL p m t root n marks) xs)=0:=λk hk=>by
  have h1:pw p m t (pw p m t root k) n=1:=by rw[<-yaz hp hm,xAL,yaz hp hm,W.ord.one,za7 hp hm]
  rw[yeb G (zaA hp hm _ _) h1 lo lx hlo hx,yci G W.r0 W.rq W.ord (W.lt k hk),if_pos hk,zero_mul hp hm]
 have hleft:=λsel hs=>zgK (rs:=rs) (sel:=sel) G W hfr hP hs
 generalize ownL p m t root n marks=own at eow lo hlo hoo hval hleft;dsimp only[yaw];refine⟨_,_,rfl,?_⟩;refine⟨szl 0,λl0 hl0=>?_⟩;have t0:=zac hl0 (.lst []);have el0:upd H2 l0 (.lst []) l0=some (.lst []):=yab;dsimp only[yaw];change tSeq _ _ _ _ (upd H2 l0 (.lst []));generalize upd H2 l0 (.lst [])=H3 at t0 el0 ⊢;obtain⟨sel,hsel⟩:∃sel,sel=cutR rs none (some 3)++cutR rs (some (-3)) none:=⟨_,rfl⟩
 have selm:∀o∈sel,o∈rs:=λo ho=>by
  rw[hsel]at ho;rcases xAB.mp ho with h|h
  ·exact zeR o h
  ·exact zeR o h
 have hleft:=hleft sel selm;refine⟨_,rfl,ev,rfl,⟨_,Same.tup t0 hev⟩,?_⟩;refine yaK (za9 (xs:=ds.map V.ref)) (λi σ H'=>Same H2 H'/\∃(fs:List Addr) (v1 v2:Option V),H' l0=some (.lst (fs.map V.ref))/\Rws K H' fs ((rs.take i).filter (gAll p m t sel))/\σ=[some (.ref fa),some (.ref tb),some (.ref wh),some (.ref oa),some (.ref ev),some (.ref ow),some (.ref l0),v1,v2]) ⟨t0,[],none,none,el0,trivial,rfl⟩ (λi σ H' _ h=>Same.tup h.1 hev) ?_ ?_
 ·rintro i z σ H4o H4 hi ⟨s4,fs,v1,v2,e4,hfs,rfl⟩ ⟨rfl,ez⟩;have hR4:=hR2.same s4;rw[xA1,hR4.len]at hi;obtain⟨d,ed,hd⟩:=hR4.get hi;rw[xA9,ed]at ez;cases ez;have hem:rs.getD i []∈rs:=by simp[List.getD,hi]
  rw[yaP (d:=[]) hi,List.filter_append];generalize rs.getD i []=e at hd hem ⊢;have hev4:=Same.tup s4 hev;dsimp only[yaw];refine⟨_,rfl,(3:Nat),rfl,zhe hev4 hR4 λc1 es1 H5 s5 h1 r1=>?_⟩;refine⟨_,rfl,_,rfl,_,rfl,?_⟩;dsimp only[zgb];refine zhe (Same.tup s5 hev4) (hR4.same s5) λc2 es2 H6 s6 h2 r2=>?_
  have cl1:=yeT rs none (some 3);have cl2:=yeT rs (some (-3)) none;refine zcU (Same.tup s6 h1) h2 (by rw[xA1,xA1,r1.len,r2.len];show(cutR rs none (some 3)).length+(cutR rs (some (-3)) none).length<=1000;omega) λc3 H7 s7 h3=>?_
  rw[<-xA8]at h3;have r3:Rws K H7 (es1++es2) sel:=by rw[hsel];exact((r1.same s6).app r2).same s7
  have s8:=s5.trans (s6.trans s7);have hd:=Same.tup s8 hd;have hFH7:=Same.tup (s12.trans (s4.trans s8)) hF;have sl:sel.length<=64:=by rw[hsel,xAx];omega
  refine⟨c3,rfl,⟨_,h3⟩,?_⟩;refine zav (za9 (xs:=(es1++es2).map V.ref)) (λj acc H'=>Same H7 H'/\acc=((sel.take j).map λo=>decide (rp p m t e o=o)).map V.bl) ⟨Same.refl _,rfl⟩ (λj acc H' _ h=>Same.tup h.1 h3) ?_ ?_ ?_
  ·rintro j acc H' hj ⟨_,rfl⟩;rw[xA1,xA1,xAH];exact zal ()
  ·rintro j acc z Ha Hb hj ⟨sa,rfl⟩ ⟨rfl,ez⟩;rw[xA1,(r3.same sa).len]at hj;obtain⟨d2,ed2,hd2⟩:=(r3.same sa).get hj;rw[xA9,ed2]at ez;cases ez;have hom:sel.getD j []∈sel:=by simp[List.getD,hj]
   have ho:=wr _ (selm _ hom);have he:=wr _ hem;rw[yaP (d:=[]) hj,xA8,xA8];generalize sel.getD j []=o at hd2 ho ⊢;dsimp only[yaw];refine⟨_,rfl,_,rfl,_,rfl,fa,d,d2,p,m,t,e,o,rfl,Same.tup sa hFH7,G,Same.tup sa hd,hd2,(),(),(),he.2,ho.2,λr Hc sc _ er=>?_⟩;refine⟨_,rfl,r,d2,(rp p m t e o).map (λx:Nat=>(x:Int)),o.map (λx:Nat=>(x:Int)),rfl,rfl,by rw[mapI];exact SqT.of er,by rw[mapI];exact Same.tup sc hd2,?_⟩;refine⟨sa.trans sc,?_⟩;have ed:decide ((rp p m t e o).map (λx:Nat=>(x:Int))=o.map (λx:Nat=>(x:Int)))=decide (rp p m t e o=o):=decide_eq_decide.mpr zed;show _=List.map V.bl _++[V.bl (decide (rp p m t e o=o))];rw[<-ed];rfl
  ·rw[xA1,r3.len,xAX];rintro acc Ha ⟨sa,rfl⟩ D hD;have sb:=sa.trans (zac hD (.lst ((sel.map λo=>decide (rp p m t e o=o)).map V.bl)));refine⟨D,_,rfl,SqL.of yab,gAll p m t sel e,congrArg V.bl (yeS _ _ _ _ _),?_⟩;have s9:=s4.trans (s8.trans sb);have e9:=(s8.trans sb) _ _ e4;have hfs9:=hfs.same (s8.trans sb);have hd9:=Same.tup sb hd;refine ite2 (λc=>?_) (λc=>?_)
   ·have hfl:fs.length<=64:=by
     rw[hfs.len];have:=xBl (gAll p m t sel) (rs.take i);rw[xAH]at this;omega
    refine⟨_,rfl,.inl ⟨rfl,_,SqL.of e9⟩,_,rfl,l0,_,_,rfl,rfl,e9,by rw[xA1];exact zal (),?_⟩;refine⟨zbB s9 hl0,fs++[d],_,_,by rw[yab,xA8];rfl,?_,rfl⟩;rw[List.filter_cons,if_pos c,List.filter_nil];exact(hfs9.app (es:=[d]) (qs:=[e]) ⟨hd9,trivial⟩).atL e9
   ·refine⟨s9,fs,_,_,e9,?_,rfl⟩;rw[List.filter_cons,if_neg c,List.filter_nil,List.append_nil];exact hfs9
 ·rw[xA1,hR2.len,xAX];rintro σ H4 ⟨s4,fs,v1,v2,e4,hfs,rfl⟩;refine⟨szl 0,λl1 hl1=>?_⟩;have t4:=zac hl1 (.lst []);have el1:upd H4 l1 (.lst []) l1=some (.lst []):=yab;have hfs5:=hfs.same t4;have e5:=t4 _ _ e4;have fl:(rs.filter (gAll p m t sel)).length<=32:=xAM (xBl _ _) wl;have fm:∀o∈rs.filter (gAll p m t sel),o∈rs:=λo ho=>(xBx.mp ho).1
  dsimp only[yaw];change tSeq _ _ _ _ (upd H4 l1 (.lst []));generalize upd H4 l1 (.lst [])=H5 at t4 el1 hfs5 e5 ⊢;generalize rs.filter (gAll p m t sel)=qs at hleft hfs hfs5 fl fm;refine⟨_,rfl,l0,rfl,⟨_,SqL.of e5⟩,?_⟩;refine yaK (yaT (xs:=fs.map V.ref)) (λi σ H'=>Same H4 H'/\∃(gs:List Addr) (v1:Option V),H' l1=some (.lst (gs.map V.ref))/\Rws K H' gs ((qs.take i).filter (gAll p m t rs))/\σ=[some (.ref fa),some (.ref tb),some (.ref wh),some (.ref oa),some (.ref ev),some (.ref ow),some (.ref l0),v1,some (.ref l1)]) ⟨t4,[],_,el1,trivial,rfl⟩ (λi σ H' _ h=>SqL.of (h.1 _ _ e4)) ?_ ?_
  ·rintro i z σ H6o H6 hi ⟨s6,gs,w1,e6,hgs,rfl⟩ ⟨rfl,ez⟩;have hf6:=hfs.same s6;rw[xA1,hf6.len]at hi;obtain⟨d,ed,hd⟩:=hf6.get hi;rw[xA9,ed]at ez;cases ez;have hem:qs.getD i []∈qs:=by simp[List.getD,hi]
   rw[yaP (d:=[]) hi,List.filter_append];generalize qs.getD i []=e at hd hem ⊢;have s26:=s4.trans s6;have hev6:=Same.tup s26 hev;have hR6:=hR2.same s26;have hFH6:=Same.tup (s12.trans s26) hF;dsimp only[yaw];refine⟨_,rfl,ev,rfl,⟨_,hev6⟩,?_⟩;refine zav (za9 (xs:=ds.map V.ref)) (λj acc H'=>Same H6 H'/\acc=((rs.take j).map λo=>decide (rp p m t e o=o)).map V.bl) ⟨Same.refl _,rfl⟩ (λj acc H' _ h=>Same.tup h.1 hev6) ?_ ?_ ?_
   ·rintro j acc H' hj ⟨_,rfl⟩;rw[xA1,xA1,xAH];exact zal ()
   ·rintro j acc z Ha Hb hj ⟨sa,rfl⟩ ⟨rfl,ez⟩;rw[xA1,(hR6.same sa).len]at hj;obtain⟨d2,ed2,hd2⟩:=(hR6.same sa).get hj;rw[xA9,ed2]at ez;cases ez;have hom:rs.getD j []∈rs:=by simp[List.getD,hj]
    have ho:=wr _ ((λo (h:o∈rs)=>h) _ hom);have he:=wr _ (fm _ hem);rw[yaP (d:=[]) hj,xA8,xA8];generalize rs.getD j []=o at hd2 ho ⊢;dsimp only[yaw];refine⟨_,rfl,_,rfl,_,rfl,fa,d,d2,p,m,t,e,o,rfl,Same.tup sa hFH6,G,Same.tup sa hd,hd2,(),(),(),he.2,ho.2,λr Hc sc _ er=>?_⟩;refine⟨_,rfl,r,d2,(rp p m t e o).map (λx:Nat=>(x:Int)),o.map (λx:Nat=>(x:Int)),rfl,rfl,by rw[mapI];exact SqT.of er,by rw[mapI];exact Same.tup sc hd2,?_⟩;refine⟨sa.trans sc,?_⟩;have ed:decide ((rp p m t e o).map (λx:Nat=>(x:Int))=o.map (λx:Nat=>(x:Int)))=decide (rp p m t e o=o):=decide_eq_decide.mpr zed;show _=List.map V.bl _++[V.bl (decide (rp p m t e o=o))];rw[<-ed];rfl
   ·rw[xA1,hR6.len,xAX];rintro acc Ha ⟨sa,rfl⟩ D hD;have sb:=sa.trans (zac hD (.lst ((rs.map λo=>decide (rp p m t e o=o)).map V.bl)));refine⟨D,_,rfl,SqL.of yab,gAll p m t rs e,congrArg V.bl (yeS _ _ _ _ _),?_⟩;have s9:=s6.trans sb;have e9:=sb _ _ e6;have hgs9:=hgs.same sb;have hd9:=Same.tup sb hd;refine ite2 (λc=>?_) (λc=>?_)
    ·have hfl:gs.length<=64:=by
      rw[hgs.len];have:=xBl (gAll p m t rs) (qs.take i);rw[xAH]at this;omega
     refine⟨_,rfl,.inl ⟨rfl,_,SqL.of e9⟩,_,rfl,l1,_,_,rfl,rfl,e9,by rw[xA1];exact zal (),?_⟩;refine⟨zbB s9 hl1,gs++[d],_,by rw[yab,xA8];rfl,?_,rfl⟩;rw[List.filter_cons,if_pos c,List.filter_nil];exact(hgs9.app (es:=[d]) (qs:=[e]) ⟨hd9,trivial⟩).atL e9
    ·refine⟨s9,gs,_,e9,?_,rfl⟩;rw[List.filter_cons,if_neg c,List.filter_nil,List.append_nil];exact hgs9
  ·rw[xA1,hfs.len,xAX,hleft];rintro σ H6 ⟨s6,gs,w1,e6,hgs,rfl⟩;obtain⟨x1,rfl⟩:∃x1,gs=[x1]:=by
    have:=hgs.len;rcases gs with _ |⟨x1,_ |⟨_,_⟩⟩
    ·cases this
    ·exact⟨x1,rfl⟩
    ·cases this
   have hx1:=hgs.1;have eow6:=s6 _ _ (s4 _ _ eow);refine⟨_,rfl,_,rfl,szl 1,λl2 hl2=>?_⟩;have s7:=zac hl2 (.lst [.ref ow]);refine⟨l1,l2,2,_,[.ref ow],rfl,rfl,(),SqL.of (s7 _ _ e6),SqL.of yab,rfl,λi x y ex ey=>?_,_,rfl,?_⟩
   ·cases i with
    |zero=>cases ex;cases ey;exact yhD (Same.tup s7 hx1) (SqT.of (s7 _ _ eow6)) ()
    |succ i=>cases ey
   refine ite2 (λc=>absurd c #[]) (λ_=>?_);have s8:=s12.trans (s4.trans (s6.trans s7));have eow8:=s7 _ _ eow6;refine⟨_,rfl,_,rfl,_,rfl,fa,ow,ow,p,m,t,own,own,rfl,Same.tup s8 hF,G,SqT.of eow8,SqT.of eow8,(),(),rfl,hlo,hlo,λr9 H9 s9 _ e9=>?_⟩;rw[hoo]at e9;refine⟨_,rfl,r9,ow,own.map (λx:Nat=>(x:Int)),own.map (λx:Nat=>(x:Int)),rfl,rfl,by rw[mapI];exact SqT.of e9,by rw[mapI];exact SqT.of (s9 _ _ eow8),_,rfl,?_⟩;refine ite2 (λc=>absurd c (by simp)) (λ_=>?_);dsimp only[zeh];have s10:=s8.trans s9;refine⟨_,rfl,_,rfl,_,rfl,fa,ow,oa,p,m,t,own,xs,rfl,Same.tup s10 hF,G,SqT.of (s9 _ _ eow8),SqT.of (s10 _ _ hoa),(),(),(),hlo,hx,λra Ha sA _ ea=>?_⟩;have s11:=s10.trans sA;have hW11:=hW.same s11;have T11:=T.same s11;have hrl:∀x∈rp p m t own xs,x<p^m:=zgw hp hm _ _;generalize rp p m t own xs=ro at ea hval hrl;dsimp only[yaw];refine⟨_,rfl,wh,_,_,.ref mk,rfl,rfl,SqT.of hW11.w,rfl,mk,rfl,⟨_,SqT.of hW11.k⟩,?_⟩;refine zav (za9 (xs:=marks.map Vn)) (λj acc H'=>Same Ha H'/\acc=(List.replicate j true).map V.bl) ⟨Same.refl _,rfl⟩ (λj acc H' _ h=>SqT.of (h.1 _ _ hW11.k)) ?_ ?_ ?_
   ·rintro j acc H' hj ⟨_,rfl⟩;rw[xA1]at hj;rw[xA1,xAq];exact zal ()
   ·rintro j acc z Hb Hc hj ⟨sb,rfl⟩ ⟨rfl,ez⟩;rw[xA1]at hj;rw[yay hj]at ez;cases ez;have hjm:marks.getD j 0∈marks:=by simp[List.getD,hj]
    generalize marks.getD j 0=k at hjm ⊢;have hWb:=hW11.same sb;refine⟨_,rfl,_,rfl,_,rfl,_,rfl,wh,_,_,Vn root,rfl,rfl,SqT.of hWb.w,rfl,_,rfl,tb,fa,pa,la,p,m,t,b,root,(k:Int),rfl,T11.same sb,W.rq,?_⟩;rw[ycY G W.rq];refine⟨tb,fa,pa,la,ra,p,m,t,b,_,ro,rfl,T11.same sb,SqT.of (sb _ _ ea),hrl,zaA hp hm _ _,λHd sd=>?_⟩;rw[hval k hjm];refine⟨rfl,sb.trans sd,?_⟩;rw[List.replicate_succ',xA8];rfl
   ·rw[xA1];rintro acc Hb ⟨sb,rfl⟩ D hD;refine⟨D,_,rfl,SqL.of yab,?_⟩;have e:(List.replicate marks.length true).all id=true:=by simp
    show Q (V.bl ((List.replicate marks.length true).all id)) _;rw[e];exact q _ (s11.trans (sb.trans (zac hD _)))
end
end My
end
section
-- text: Q94
namespace My
open PySem L2 Dg
section
variable {P:Program} {w:World} {K:PySem.W.Frag} {mg:Str->Option Value} {base:Heap} {f:Addr} {fd:FuncData}
noncomputable def zdT(K:PySem.W.Frag):Sp:=λvs H Q _=>∃(a:Addr) (ns:List Int),vs=[.ref a]/\SqL K H a (ns.map V.int)/\∀H',Q (.bl true) H'
theorem ycc:yah ["_law_script","_law_purse_here","_law_turn","_law_table_here","_law_wheel_here","_law_field_here","_law_root","_law_n","_law_q","_law_one","_law_other","_law_fewer"] ["_law_script"] (zae yew):=⟨rfl,rfl,rfl,∅,rfl,∅,∅⟩
theorem yh6(B:Bl mg)(xBI:Has P w K mg base 1 "_law_purse" ["_law_script"] (yeV K))(xBE:Has P w K mg base 1 "_law_pick" ["_law_purse_here","_law_many"] ycr)(xBR:Has P w K mg base 5 "_law_wheel" ["_law_purse_here","_law_most"] ydT)(xBJ:Has P w K mg base 1 "_law_raised" ["_law_one","_law_many"] yam)(xBL:Has P w K mg base 2 "_law_round" ["_law_table_here","_law_one"] yc0)(xBM:Has P w K mg base 2 "_law_row" ["_law_purse_here","_law_table_here","_law_n"] yhi)(xBP:Has P w K mg base 8 "_law_turned_right" ["_law_field_here","_law_root","_law_table_here","_law_one","_law_other"] (ye9 K))(xBz:Has P w K mg base 2 "_law_few_enough" ["_law_purse_here","_law_wheel_here","_law_n","_law_q"] yf0)(xBD:Has P w K mg base 10 "_law_own_right" ["_law_field_here","_law_table_here","_law_wheel_here","_law_one"] (zfP K))(F:Fun K "law" "law" yew f fd):FnOk P w K mg base CX0 11 f fd ["_law_script"] (zdT K):=by
 refine F.ok ycc (λvs H Q E h=>?_) (λcdv A outer s H vs Q E hr h=>?_)
 ·obtain⟨a,ns,rfl,_⟩:=h;rfl
 obtain⟨a,ns,rfl,ha,q⟩:=h;refine⟨_,(yaa (@yaf _ _ 1 _ _ _ _ ycc.nd rfl (Or.inl rfl) (zad xBI hr #[] rfl (zaa (pv 0) zab ⋯) #[] ⋯ ⋯) ⋯ (by trivial)) (yaa (@zaF _ _ _ _ _ _ _ _ xAi rfl (@yaG _ _ _ _ _ _ rfl (B "range" #[]) (zaa (zag yav yac (zam (yd3 rfl) rfl (B "min" #[]) ycR (zaa yac (zaa (zam zak rfl (B "len" #[]) xAR (zaa (pv 0) zab ⋯) #[] #[] ⋯ ⋯) zab ⋯) ⋯) #[] #[] ⋯ ⋯)) zab ⋯) ⋯) (@yae _ _ 2 _ ycc.nd rfl (Or.inl rfl) (by trivial)) (yaa (@za5 _ _ _ _ _ _ (zad xBR hr #[] rfl (zaa (pv 1) (zaa (zao yan (@yaI _ _ _ _ (zaa yac (zaa yac (zaa yac (zaa yac (zaa yac (zaa yac (zaa yac (zaa yac zab ⋯) ⋯) ⋯) ⋯) ⋯) ⋯) ⋯) ⋯)) (zad xBE hr #[] rfl (zaa (pv 1) (zaa yac zab ⋯) ⋯) #[] ⋯ ⋯) (λ_ _=>rfl)) zab ⋯) ⋯) #[] ⋯ ⋯) (@zaX _ _ _ _ _ _ rfl (yag (@yae _ _ 3 _ ycc.nd rfl (Or.inl rfl) (by trivial)) (yag (@yae _ _ 4 _ ycc.nd rfl (Or.inl rfl) (by trivial)) yaE ⋯) ⋯) ⋯ ⋯) ⋯ ⋯ ⋯) (yaa (@zbI _ _ 5 6 _ _ _ _ _ _ _ _ _ _ _ rfl ycc.nd rfl rfl #[] rfl rfl (zaa (zao zax (pv 4) yac (λ_ _=>rfl)) (zaa (zao zax (pv 4) yac (λ_ _=>rfl)) zab ⋯) ⋯) rfl ⋯) (yaa (@zbI _ _ 7 8 _ _ _ _ _ _ _ _ _ _ _ rfl ycc.nd rfl rfl #[] rfl rfl (zaa (zad xBL hr #[] rfl (zaa (pv 3) (zaa (pv 6) zab ⋯) ⋯) #[] ⋯ ⋯) (zaa (zad xBJ hr #[] rfl (zaa (@zaH _ _ _ _ _ _ (ybG hr) (pv 3) yaN (λ_ _=>rfl)) (zaa (zao zax (pv 4) yac (λ_ _=>rfl)) zab ⋯) ⋯) #[] ⋯ ⋯) zab ⋯) ⋯) rfl ⋯) (yaa (@zbI _ _ 9 10 _ _ _ _ _ _ _ _ _ _ _ rfl ycc.nd rfl rfl #[] rfl rfl (zaa (zad xBM hr #[] rfl (zaa (pv 1) (zaa (pv 3) (zaa (pv 7) zab ⋯) ⋯) ⋯) #[] ⋯ ⋯) (zaa (zad xBM hr #[] rfl (zaa (pv 1) (zaa (pv 3) (zaa (pv 7) zab ⋯) ⋯) ⋯) #[] ⋯ ⋯) zab ⋯) ⋯) rfl ⋯) (yaa (@yaS _ _ _ _ _ _ _ _ (@ygr _ _ _ _ (@zdj _ _ _ (zad xBP hr #[] rfl (zaa (pv 5) (zaa (pv 6) (zaa (pv 3) (zaa (pv 9) (zaa (pv 10) zab ⋯) ⋯) ⋯) ⋯) ⋯) #[] ⋯ ⋯) (by intro _;rfl))) (yad (@yai _ _ _ _ yeA)) zas) (yaa (@yaf _ _ 11 _ _ _ _ ycc.nd rfl (Or.inl rfl) (zad xBz hr #[] rfl (zaa (pv 1) (zaa (pv 4) (zaa (pv 7) (zaa (pv 8) zab ⋯) ⋯) ⋯) ⋯) #[] ⋯ ⋯) ⋯ (by trivial)) (yad (@yaS _ _ _ _ _ _ _ _ (@PW.pt _ _ _ (@yeZ _ _ _ _ _ _ _ (@zai _ _ _ _ _ _ _ _ zhO (pv 7) yac (yaj _)) (@zds _ _ _ _ (@ygr _ _ _ _ (@zdj _ _ _ (zad xBD hr #[] rfl (zaa (pv 5) (zaa (pv 3) (zaa (pv 11) (zaa (pv 9) zab ⋯) ⋯) ⋯) ⋯) #[] ⋯ ⋯) (by intro _;rfl)))))) (yad (@yai _ _ _ _ yeA)) zas)))))))) (by intro _;rfl)) (yad (@yai _ _ _ _ yeA)))),?_⟩;refine⟨_,rfl,a,ns,rfl,ha,λpu g H1 n1 n2 s1 hP=>?_⟩;refine⟨_,rfl,a,_,rfl,.inl (zgO s1 ha),1,_,rfl,_,_,rfl,rfl,?_⟩;obtain⟨N,hN,eN⟩:∃N:Nat,N<=2/\1+(if (ns.length:Int)<1 then(ns.length:Int) else 1)=(N:Int):=by
  by_cases c:(ns.length:Int)<1
  ·exact⟨1+ns.length,(),by rw[if_pos c];omega⟩
  ·exact⟨2,(),by rw[if_neg c];rfl⟩
 refine⟨(N:Int),by rw[<-eN];show [V.int (1+(if ((ns.map V.int).length:Int)<1 then((ns.map V.int).length:Int) else 1))]=_;rw[xA1],(),(),?_⟩;refine zaU (lo:=0) (n:=(N:Int).toNat) (λi σ H'=>Pu H' pu g/\∃s2 s3 s4 s5 s6 s7 s8 s9 s10 s11,σ=[some (.ref a),some (.ref pu),s2,s3,s4,s5,s6,s7,s8,s9,s10,s11]) ⟨hP,none,none,none,none,none,none,none,none,none,none,rfl⟩ ?_ (λσ H' _=>q _);rintro j σ H2 hj ⟨hP2,s2,s3,s4,s5,s6,s7,s8,s9,s10,s11,rfl⟩;refine⟨_,rfl,szl 8,λl0 hl0=>?_⟩;have sl:=zac hl0 (.lst [.int 15,.int 15,.int 15,.int 15,.int 15,.int 9,.int 9,.int 31]);refine⟨_,rfl,pu,g,8,rfl,hP2.same sl,(),(),λv H3 hv hP3 sx3=>?_⟩;have nl0:=hP2.lt hl0;have el:=sx3 _ _ nl0.1 nl0.2 (show upd H2 l0 (.lst [.int 15,.int 15,.int 15,.int 15,.int 15,.int 9,.int 9,.int 31]) l0=some (.lst [.int 15,.int 15,.int 15,.int 15,.int 15,.int 9,.int 9,.int 31]) from yab);obtain⟨top,htop,htop2,etop⟩:∃top:Nat,1<=top/\top<=31/\atI [V.int 15,V.int 15,V.int 15,V.int 15,V.int 15,V.int 9,V.int 9,V.int 31] (v:Int)=some (Vn top):=by
  rcases(show v=0\/v=1\/v=2\/v=3\/v=4\/v=5\/v=6\/v=7 by omega) with rfl|rfl|rfl|rfl|rfl|rfl|rfl|rfl
  all_goals first|exact⟨15,#[],#[],rfl⟩|exact⟨9,#[],#[],rfl⟩|exact⟨31,#[],#[],rfl⟩
 refine⟨l0,_,_,Vn top,rfl,rfl,SqL.of el,etop,?_⟩;refine⟨pu,g,top,rfl,hP3,htop,λr tb fa pa la wh mk p m t b few root n marks H4 er T ap hW nwh nmk nr W hn hP4 sx4=>?_⟩;refine⟨r,_,rfl,SqT.of er,rfl,_,_,rfl,_,_,rfl,rfl,?_⟩;have G:=T.good;have hQ:=G.hq;have hnq:=W.nq;have hn0:=W.ord.pos;have hf6:few<=6:=xAM (Nat.le_of_dvd (by have:=G.hm;omega) (xAV W.fewm)) (m_le G.hp hQ);refine⟨_,rfl,wh,_,_,.ref fa,rfl,rfl,SqT.of hW.w,rfl,_,rfl,wh,_,_,Vn root,rfl,rfl,SqT.of hW.w,rfl,?_⟩;refine⟨_,_,rfl,?_⟩;refine⟨_,rfl,_,rfl,tb,fa,pa,la,p,m,t,b,root,rfl,T,W.r0,W.rq,λn' o' hn'=>?_⟩;cases o'.uniq W.ord;refine⟨_,rfl,tb,_,rfl,T.get zhn,_,rfl,wh,_,_,Vn few,rfl,rfl,SqT.of hW.w,rfl,p,few,rfl,p_le G.hp G.hm hQ,(),?_⟩;refine⟨_,_,rfl,?_⟩;refine⟨_,rfl,_,rfl,_,rfl,pu,g,tb,fa,pa,la,p,m,t,b,n,rfl,hP4,T,ap,(),(),λr1 xs H5 hP5 sx5 e5 lx hx=>?_⟩;have T5:=T.x ap sx5;have nr1:=hP5.tup_ne e5;refine⟨_,rfl,_,rfl,_,rfl,pu,g,tb,fa,pa,la,p,m,t,b,n,rfl,hP5,T5,ap,(),(),λr2 ys H6 hP6 sx6 e6 ly hy=>?_⟩;have T6:=T5.x ap sx6;have e5':=sx6 _ _ nr1.1 nr1.2 e5;have hW6:=hW.x nwh nmk (sx5.trans sx6);refine⟨_,_,rfl,?_⟩;refine⟨_,rfl,_,rfl,_,rfl,_,rfl,_,rfl,fa,tb,pa,la,r1,r2,p,m,t,b,root,n,xs,ys,rfl,T6,W.r0,W.rq,W.ord,(),SqT.of e5',SqT.of e6,lx,ly,hx,hy,λH7 s7=>?_⟩;refine⟨true,rfl,?_⟩;refine ite2 (λc=>absurd c #[]) (λ_=>?_);dsimp only[zeh];have T7:=T6.same s7;have hP7:=hP6.same s7;have hW7:=hW6.same s7;have e7:=s7 _ _ e5';refine⟨_,rfl,_,rfl,_,rfl,_,rfl,pu,g,wh,fa,mk,p,m,t,few,root,n,marks,rfl,hP7,G,hW7,nwh,nmk,W,(),λwf mf ms H8 hW8 nwf nmf W8 hz hP8 sx8=>?_⟩;have T8:=T7.x ap sx8;have e8:=sx8 _ _ nr1.1 nr1.2 e7;dsimp only[yaw];refine⟨_,rfl,_,_,rfl,rfl,_,rfl,?_⟩;refine ite2 (λc=>?_) (λ_=>?_)
 ·refine⟨_,rfl,_,rfl,_,rfl,_,rfl,tb,fa,pa,la,wf,mf,r1,p,m,t,b,few,root,n,ms,xs,rfl,T8,hW8,W8,(),hz,e8,lx,hx,λH9 s9=>?_⟩;refine⟨true,rfl,?_⟩;refine ite2 (λc=>absurd c #[]) (λ_=>?_);exact⟨hP8.same s9,_,_,_,_,_,_,_,_,_,_,rfl⟩
 ·refine ite2 (λc=>absurd c #[]) (λ_=>?_);exact⟨hP8,_,_,_,_,_,_,_,_,_,_,rfl⟩
end
end My
end
section
-- text: Z94
namespace My
open PySem L2 Dg
theorem zgA{K:PySem.W.Frag}{H:Hp}{a:Addr}{ns:List Int}{E:XK}(hl:ns.length<=63)(hS:SqL K H a (ns.map V.int)):zdT K [.ref a] H (λv _=>v = .bl true) E:=⟨a,ns,rfl,hS,λ_=>rfl⟩
noncomputable def DI(K:PySem.W.Frag)(f:Addr)(x:Str)(st:Stmt):Prop:=∃fd:FuncData,Fun K x x st f fd/\PySem.W.nsIn K mainGlobals x=some (some (.ref f))
theorem DI.mk{K:PySem.W.Frag}{x:Str}{st:Stmt}{f:Addr}{oc:Value}{od an:Option Addr}{osl:Array (Option Value)}{kV doc pm cdv ct:Value}(a:PySem.W.nsIn K mainGlobals x=some (some (.ref f)))(l:K.lookup f=some ⟨oc,od,.func (PySem.W.fnOf x x (ycq st) (zb2 st) (zae st) .none kV doc pm an cdv ct),osl⟩)(c:PySem.W.codeIn K cdv x=true)(k:PySem.W.keepIn K (.ref f)=true):DI K f x st:=⟨_,yg6 (st:=st) l c k,a⟩
theorem all_mk{l:PySem.W.OpenLaw}{w:World}{K:PySem.W.Frag}{h:Heap}{mg:Str->Option Value}{fa:Addr}(X:K.In h)(G:h.Ns mainGlobals mg)(hfa:mg "law"=some (.ref fa))
  {f1:Addr} (q1:DI K f1 "number_power" ybr) {f2:Addr} (q2:DI K f2 "many_things" zbA) {f3:Addr} (q3:DI K f3 "plus" zgq) {f4:Addr} (q4:DI K f4 "digit_times" zbw) {f5:Addr} (q5:DI K f5 "minus" yeD) {f6:Addr} (q6:DI K f6 "lifted" zdz) {f7:Addr} (q7:DI K f7 "times" zeq) {f8:Addr} (q8:DI K f8 "times_itself" zbq) {f9:Addr} (q9:DI K f9 "over" zgh) {f10:Addr} (q10:DI K f10 "power" yeM) {f11:Addr} (q11:DI K f11 "round_of" ycn) {f12:Addr} (q12:DI K f12 "word_sum" zbQ) {f13:Addr} (q13:DI K f13 "word_times" ybj) {f14:Addr} (q14:DI K f14 "trimmed" zcT) {f15:Addr} (q15:DI K f15 "widened" zc0) {f16:Addr} (q16:DI K f16 "row_times" zb4) {f17:Addr} (q17:DI K f17 "row_over" zci) {f18:Addr} (q18:DI K f18 "value" zep) {f19:Addr} (q19:DI K f19 "turned" ycF) {f20:Addr} (q20:DI K f20 "turned_back" ybv) {f21:Addr} (q21:DI K f21 "round_product" zbe) {f22:Addr} (q22:DI K f22 "length" ydM) {f23:Addr} (q23:DI K f23 "own_word" zbU) {f24:Addr} (q24:DI K f24 "letters" zb6) {f25:Addr} (q25:DI K f25 "row_of_roots" zbo) {f26:Addr} (q26:DI K f26 "maker" zeF) {f27:Addr} (q27:DI K f27 "free" yfN) {f28:Addr} (q28:DI K f28 "how_many" zcl) {f29:Addr} (q29:DI K f29 "made" zfa) {f30:Addr} (q30:DI K f30 "words" ycJ) {f31:Addr} (q31:DI K f31 "_law_purse" ybO) {f32:Addr} (q32:DI K f32 "_law_pick" zb0) {f33:Addr} (q33:DI K f33 "_law_raised" zbD) {f34:Addr} (q34:DI K f34 "_law_digits" ybB) {f35:Addr} (q35:DI K f35 "_law_number" ybx) {f36:Addr} (q36:DI K f36 "_law_product" ybp) {f37:Addr} (q37:DI K f37 "_law_is_good" ya2) {f38:Addr} (q38:DI K f38 "_law_field" zbl) {f39:Addr} (q39:DI K f39 "_law_table" zbk) {f40:Addr} (q40:DI K f40 "_law_plus" yb2) {f41:Addr} (q41:DI K f41 "_law_times" zbJ) {f42:Addr} (q42:DI K f42 "_law_power" ybP) {f43:Addr} (q43:DI K f43 "_law_value" ybN) {f44:Addr} (q44:DI K f44 "_law_round" zbN) {f45:Addr} (q45:DI K f45 "_law_ring" ybZ) {f46:Addr} (q46:DI K f46 "_law_wheel" yaF) {f47:Addr} (q47:DI K f47 "_law_row" ycl) {f48:Addr} (q48:DI K f48 "_law_few_enough" zaY) {f49:Addr} (q49:DI K f49 "_law_turned_right" zay) {f50:Addr} (q50:DI K f50 "_law_own_right" yaA) {f51:Addr} (q51:DI K f51 "law" yew)
  {tk_MOST_WORDS:Tok} (kk_MOST_WORDS:PySem.W.nsIn K mainGlobals "MOST_WORDS"=some (some (.int 4096 tk_MOST_WORDS)))
  (z1:PySem.W.nsIn K mainGlobals "range"=some none) (z2:PySem.W.nsIn K mainGlobals "len"=some none) (z3:PySem.W.nsIn K mainGlobals "abs"=some none) (z4:PySem.W.nsIn K mainGlobals "min"=some none) (z5:PySem.W.nsIn K mainGlobals "max"=some none) (z6:PySem.W.nsIn K mainGlobals "all"=some none) (z7:PySem.W.nsIn K mainGlobals "any"=some none) (z8:PySem.W.nsIn K mainGlobals "isinstance"=some none) (z9:PySem.W.nsIn K mainGlobals "int"=some none) (z10:PySem.W.nsIn K mainGlobals "bool"=some none) (z11:PySem.W.nsIn K mainGlobals "tuple"=some none) (z12:PySem.W.nsIn K mainGlobals "list"=some none) (z13:PySem.W.nsIn K mainGlobals "zip"=some none) (z14:PySem.W.nsIn K mainGlobals "enumerate"=some none) (z15:PySem.W.nsIn K mainGlobals "repr"=some none) (z16:PySem.W.nsIn K mainGlobals "dict"=some none) (z17:PySem.W.nsIn K mainGlobals "reversed"=some none) (z18:PySem.W.nsIn K mainGlobals "sorted"=some none) (z19:PySem.W.nsIn K mainGlobals "sum"=some none) (z20:PySem.W.nsIn K mainGlobals "set"=some none) (z21:PySem.W.nsIn K mainGlobals "str"=some none) :
  ∃fd:FuncData,(∀(s:Shared) (v:Value),BindsTo s fd ⟨[v],[]⟩ [("_law_script",v)])/\∀base:Heap,K.In base->base.Ns mainGlobals mg->FnOk l.prog w K mg base CX0 11 fa fd ["_law_script"] (zdT K):=by
 obtain⟨_,F1,a1⟩:=q1;obtain⟨_,F2,a2⟩:=q2;obtain⟨_,F3,a3⟩:=q3;obtain⟨_,F4,a4⟩:=q4;obtain⟨_,F5,a5⟩:=q5;obtain⟨_,F6,a6⟩:=q6;obtain⟨_,F7,a7⟩:=q7;obtain⟨_,F8,a8⟩:=q8;obtain⟨_,F9,a9⟩:=q9;obtain⟨_,F10,a10⟩:=q10;obtain⟨_,F11,a11⟩:=q11;obtain⟨_,F12,a12⟩:=q12;obtain⟨_,F13,a13⟩:=q13;obtain⟨_,F14,a14⟩:=q14;obtain⟨_,F15,a15⟩:=q15;obtain⟨_,F16,a16⟩:=q16;obtain⟨_,F17,a17⟩:=q17;obtain⟨_,F18,a18⟩:=q18;obtain⟨_,F19,a19⟩:=q19;obtain⟨_,F20,a20⟩:=q20;obtain⟨_,F21,a21⟩:=q21;obtain⟨_,F22,a22⟩:=q22;obtain⟨_,F23,a23⟩:=q23;obtain⟨_,F24,a24⟩:=q24;obtain⟨_,F25,a25⟩:=q25;obtain⟨_,F26,a26⟩:=q26;obtain⟨_,F27,a27⟩:=q27;obtain⟨_,F28,a28⟩:=q28;obtain⟨_,F29,a29⟩:=q29;obtain⟨_,F30,a30⟩:=q30;obtain⟨_,F31,a31⟩:=q31;obtain⟨_,F32,a32⟩:=q32;obtain⟨_,F33,a33⟩:=q33;obtain⟨_,F34,a34⟩:=q34;obtain⟨_,F35,a35⟩:=q35;obtain⟨_,F36,a36⟩:=q36;obtain⟨_,F37,a37⟩:=q37;obtain⟨_,F38,a38⟩:=q38;obtain⟨_,F39,a39⟩:=q39;obtain⟨_,F40,a40⟩:=q40;obtain⟨_,F41,a41⟩:=q41;obtain⟨_,F42,a42⟩:=q42;obtain⟨_,F43,a43⟩:=q43;obtain⟨_,F44,a44⟩:=q44;obtain⟨_,F45,a45⟩:=q45;obtain⟨_,F46,a46⟩:=q46;obtain⟨_,F47,a47⟩:=q47;obtain⟨_,F48,a48⟩:=q48;obtain⟨_,F49,a49⟩:=q49;obtain⟨_,F50,a50⟩:=q50;obtain⟨_,⟨⟨oc,od,kV,dc,pm,an,cd,ct,sl,rfl,lL,cL⟩,kL⟩,aL⟩:=q51;have e:=hfa.symm.trans (xAg X G aL);cases e;have F51:=yg6 (st:=yew) lL cL kL;have b1:=F1.binds (ps:=["base","many"]) λ_ _ _ _ _ _ us hl=>match us,hl with | [_,_],_=>rfl
 have b2:=F2.binds (ps:=["field"]) λ_ _ _ _ _ _ us hl=>match us,hl with | [_],_=>rfl
 have b3:=F3.binds (ps:=["field","one","other"]) λ_ _ _ _ _ _ us hl=>match us,hl with | [_,_,_],_=>rfl
 have b4:=F4.binds (ps:=["field","digit","one"]) λ_ _ _ _ _ _ us hl=>match us,hl with | [_,_,_],_=>rfl
 have b5:=F5.binds (ps:=["field","one","other"]) λ_ _ _ _ _ _ us hl=>match us,hl with | [_,_,_],_=>rfl
 have b6:=F6.binds (ps:=["field","one"]) λ_ _ _ _ _ _ us hl=>match us,hl with | [_,_],_=>rfl
 have b7:=F7.binds (ps:=["field","one","other"]) λ_ _ _ _ _ _ us hl=>match us,hl with | [_,_,_],_=>rfl
 have b8:=F8.binds (ps:=["field","one","many"]) λ_ _ _ _ _ _ us hl=>match us,hl with | [_,_,_],_=>rfl
 have b9:=F9.binds (ps:=["field","one","other"]) λ_ _ _ _ _ _ us hl=>match us,hl with | [_,_,_],_=>rfl
 have b10:=F10.binds (ps:=["field","one","many"]) λ_ _ _ _ _ _ us hl=>match us,hl with | [_,_,_],_=>rfl
 have b11:=F11.binds (ps:=["field","one"]) λ_ _ _ _ _ _ us hl=>match us,hl with | [_,_],_=>rfl
 have b12:=F12.binds (ps:=["field","one","other"]) λ_ _ _ _ _ _ us hl=>match us,hl with | [_,_,_],_=>rfl
 have b13:=F13.binds (ps:=["field","one","word"]) λ_ _ _ _ _ _ us hl=>match us,hl with | [_,_,_],_=>rfl
 have b14:=F14.binds (ps:=["things"]) λ_ _ _ _ _ _ us hl=>match us,hl with | [_],_=>rfl
 have b15:=F15.binds (ps:=["row","many"]) λ_ _ _ _ _ _ us hl=>match us,hl with | [_,_],_=>rfl
 have b16:=F16.binds (ps:=["field","one","other"]) λ_ _ _ _ _ _ us hl=>match us,hl with | [_,_,_],_=>rfl
 have b17:=F17.binds (ps:=["field","one","other"]) λ_ _ _ _ _ _ us hl=>match us,hl with | [_,_,_],_=>rfl
 have b18:=F18.binds (ps:=["field","row","one"]) λ_ _ _ _ _ _ us hl=>match us,hl with | [_,_,_],_=>rfl
 have b19:=F19.binds (ps:=["field","root","row"]) λ_ _ _ _ _ _ us hl=>match us,hl with | [_,_,_],_=>rfl
 have b20:=F20.binds (ps:=["field","root","row"]) λ_ _ _ _ _ _ us hl=>match us,hl with | [_,_,_],_=>rfl
 have b21:=F21.binds (ps:=["field","one","other"]) λ_ _ _ _ _ _ us hl=>match us,hl with | [_,_,_],_=>rfl
 have b22:=F22.binds (ps:=["wheel"]) λ_ _ _ _ _ _ us hl=>match us,hl with | [_],_=>rfl
 have b23:=F23.binds (ps:=["wheel"]) λ_ _ _ _ _ _ us hl=>match us,hl with | [_],_=>rfl
 have b24:=F24.binds (ps:=["field","few"]) λ_ _ _ _ _ _ us hl=>match us,hl with | [_,_],_=>rfl
 have b25:=F25.binds (ps:=["field","root","powers"]) λ_ _ _ _ _ _ us hl=>match us,hl with | [_,_,_],_=>rfl
 have b26:=F26.binds (ps:=["wheel"]) λ_ _ _ _ _ _ us hl=>match us,hl with | [_],_=>rfl
 have b27:=F27.binds (ps:=["wheel"]) λ_ _ _ _ _ _ us hl=>match us,hl with | [_],_=>rfl
 have b28:=F28.binds (ps:=["wheel"]) λ_ _ _ _ _ _ us hl=>match us,hl with | [_],_=>rfl
 have b29:=F29.binds (ps:=["wheel","given"]) λ_ _ _ _ _ _ us hl=>match us,hl with | [_,_],_=>rfl
 have b30:=F30.binds (ps:=["wheel"]) λ_ _ _ _ _ _ us hl=>match us,hl with | [_],_=>rfl
 have b31:=F31.binds (ps:=["_law_script"]) λ_ _ _ _ _ _ us hl=>match us,hl with | [_],_=>rfl
 have b32:=F32.binds (ps:=["_law_purse_here","_law_many"]) λ_ _ _ _ _ _ us hl=>match us,hl with | [_,_],_=>rfl
 have b33:=F33.binds (ps:=["_law_one","_law_many"]) λ_ _ _ _ _ _ us hl=>match us,hl with | [_,_],_=>rfl
 have b34:=F34.binds (ps:=["_law_field_here","_law_thing"]) λ_ _ _ _ _ _ us hl=>match us,hl with | [_,_],_=>rfl
 have b35:=F35.binds (ps:=["_law_field_here","_law_digits_here"]) λ_ _ _ _ _ _ us hl=>match us,hl with | [_,_],_=>rfl
 have b36:=F36.binds (ps:=["_law_field_here","_law_one","_law_other"]) λ_ _ _ _ _ _ us hl=>match us,hl with | [_,_,_],_=>rfl
 have b37:=F37.binds (ps:=["_law_field_here"]) λ_ _ _ _ _ _ us hl=>match us,hl with | [_],_=>rfl
 have b38:=F38.binds (ps:=["_law_purse_here"]) λ_ _ _ _ _ _ us hl=>match us,hl with | [_],_=>rfl
 have b39:=F39.binds (ps:=["_law_field_here"]) λ_ _ _ _ _ _ us hl=>match us,hl with | [_],_=>rfl
 have b40:=F40.binds (ps:=["_law_table_here","_law_one","_law_other"]) λ_ _ _ _ _ _ us hl=>match us,hl with | [_,_,_],_=>rfl
 have b41:=F41.binds (ps:=["_law_table_here","_law_one","_law_other"]) λ_ _ _ _ _ _ us hl=>match us,hl with | [_,_,_],_=>rfl
 have b42:=F42.binds (ps:=["_law_table_here","_law_one","_law_many"]) λ_ _ _ _ _ _ us hl=>match us,hl with | [_,_,_],_=>rfl
 have b43:=F43.binds (ps:=["_law_table_here","_law_row_here","_law_one"]) λ_ _ _ _ _ _ us hl=>match us,hl with | [_,_,_],_=>rfl
 have b44:=F44.binds (ps:=["_law_table_here","_law_one"]) λ_ _ _ _ _ _ us hl=>match us,hl with | [_,_],_=>rfl
 have b45:=F45.binds (ps:=["_law_i","_law_n","_law_q"]) λ_ _ _ _ _ _ us hl=>match us,hl with | [_,_,_],_=>rfl
 have b46:=F46.binds (ps:=["_law_purse_here","_law_most"]) λ_ _ _ _ _ _ us hl=>match us,hl with | [_,_],_=>rfl
 have b47:=F47.binds (ps:=["_law_purse_here","_law_table_here","_law_n"]) λ_ _ _ _ _ _ us hl=>match us,hl with | [_,_,_],_=>rfl
 have b48:=F48.binds (ps:=["_law_purse_here","_law_wheel_here","_law_n","_law_q"]) λ_ _ _ _ _ _ us hl=>match us,hl with | [_,_,_,_],_=>rfl
 have b49:=F49.binds (ps:=["_law_field_here","_law_root","_law_table_here","_law_one","_law_other"]) λ_ _ _ _ _ _ us hl=>match us,hl with | [_,_,_,_,_],_=>rfl
 have b50:=F50.binds (ps:=["_law_field_here","_law_table_here","_law_wheel_here","_law_one"]) λ_ _ _ _ _ _ us hl=>match us,hl with | [_,_,_,_],_=>rfl
 have B:Bl mg:=by
  intro x hx;simp only[yg9,xAa,xAk,xB0]at hx;rcases hx with rfl|rfl|rfl|rfl|rfl|rfl|rfl|rfl|rfl|rfl|rfl|rfl|rfl|rfl|rfl|rfl|rfl|rfl|rfl|rfl|rfl
  ·exact xAr X G z1
  ·exact xAr X G z2
  ·exact xAr X G z3
  ·exact xAr X G z4
  ·exact xAr X G z5
  ·exact xAr X G z6
  ·exact xAr X G z7
  ·exact xAr X G z8
  ·exact xAr X G z9
  ·exact xAr X G z10
  ·exact xAr X G z11
  ·exact xAr X G z12
  ·exact xAr X G z13
  ·exact xAr X G z14
  ·exact xAr X G z15
  ·exact xAr X G z16
  ·exact xAr X G z17
  ·exact xAr X G z18
  ·exact xAr X G z19
  ·exact xAr X G z20
  ·exact xAr X G z21
 have m_MOST_WORDS:=xAg X G kk_MOST_WORDS;refine⟨PySem.W.fnOf "law" "law" (ycq yew) (zb2 yew) (zae yew) .none kV dc pm an cd ct,λs v=>.of_eq rfl,λbase _ _=>?_⟩;have xC2:Has l.prog w K mg base 1 "number_power" ["base","many"] _:=⟨f1,_,zcS (P:=l.prog) (w:=w) (base:=base) B  F1,b1,F1.2,xAg X G a1⟩
 have xC0:Has l.prog w K mg base 2 "many_things" ["field"] _:=⟨f2,_,zhN (P:=l.prog) (w:=w) (base:=base) B xC2 F2,b2,F2.2,xAg X G a2⟩
 have xC5:Has l.prog w K mg base 1 "plus" ["field","one","other"] _:=⟨f3,_,zhv (P:=l.prog) (w:=w) (base:=base) B  F3,b3,F3.2,xAg X G a3⟩
 have xBS:Has l.prog w K mg base 1 "digit_times" ["field","digit","one"] _:=⟨f4,_,yda (P:=l.prog) (w:=w) (base:=base) B  F4,b4,F4.2,xAg X G a4⟩
 have xC1:Has l.prog w K mg base 2 "minus" ["field","one","other"] _:=⟨f5,_,yg3 (P:=l.prog) (w:=w) (base:=base) B xC5 xBS F5,b5,F5.2,xAg X G a5⟩
 have xBX:Has l.prog w K mg base 2 "lifted" ["field","one"] _:=⟨f6,_,zfF (P:=l.prog) (w:=w) (base:=base) B xC5 xBS xC2 F6,b6,F6.2,xAg X G a6⟩
 have xCc:Has l.prog w K mg base 3 "times" ["field","one","other"] _:=⟨f7,_,zgz (P:=l.prog) (w:=w) (base:=base) B xC5 xBS xBX F7,b7,F7.2,xAg X G a7⟩
 have xCd:Has l.prog w K mg base 4 "times_itself" ["field","one","many"] _:=⟨f8,_,yfU (P:=l.prog) (w:=w) (base:=base) B xCc F8,b8,F8.2,xAg X G a8⟩
 have xC3:Has l.prog w K mg base 5 "over" ["field","one","other"] _:=⟨f9,_,yhj (P:=l.prog) (w:=w) (base:=base) B xCc xCd xC0 F9,b9,F9.2,xAg X G a9⟩
 have xC6:Has l.prog w K mg base 5 "power" ["field","one","many"] _:=⟨f10,_,zgF (P:=l.prog) (w:=w) (base:=base) B xCd xC0 F10,b10,F10.2,xAg X G a10⟩
 have xC7:Has l.prog w K mg base 4 "round_of" ["field","one"] _:=⟨f11,_,ygA (P:=l.prog) (w:=w) (base:=base) B xCc F11,b11,F11.2,xAg X G a11⟩
 have xCj:Has l.prog w K mg base 2 "word_sum" ["field","one","other"] _:=⟨f12,_,zev (P:=l.prog) (w:=w) (base:=base) B xC5 F12,b12,F12.2,xAg X G a12⟩
 have xCk:Has l.prog w K mg base 4 "word_times" ["field","one","word"] _:=⟨f13,_,zdF (P:=l.prog) (w:=w) (base:=base) B xCc F13,b13,F13.2,xAg X G a13⟩
 have xCe:Has l.prog w K mg base 1 "trimmed" ["things"] _:=⟨f14,_,zg0 (P:=l.prog) (w:=w) (base:=base) B  F14,b14,F14.2,xAg X G a14⟩
 have xCi:Has l.prog w K mg base 1 "widened" ["row","many"] _:=⟨f15,_,zia (P:=l.prog) (w:=w) (base:=base) B  F15,b15,F15.2,xAg X G a15⟩
 have xCb:Has l.prog w K mg base 4 "row_times" ["field","one","other"] _:=⟨f16,_,yf8 (P:=l.prog) (w:=w) (base:=base) B xC5 xCc (zh6 xCe) F16,b16,F16.2,xAg X G a16⟩
 have xCa:Has l.prog w K mg base 6 "row_over" ["field","one","other"] _:=⟨f17,_,ygN (P:=l.prog) (w:=w) (base:=base) B xC3 xC1 xCc (zh6 xCe) F17,b17,F17.2,xAg X G a17⟩
 have xCh:Has l.prog w K mg base 4 "value" ["field","row","one"] _:=⟨f18,_,ygD (P:=l.prog) (w:=w) (base:=base) B xC5 xCc F18,b18,F18.2,xAg X G a18⟩
 have xCf:Has l.prog w K mg base 6 "turned" ["field","root","row"] _:=⟨f19,_,yid (P:=l.prog) (w:=w) (base:=base) B xCh xC6 F19,b19,F19.2,xAg X G a19⟩
 have xCg:Has l.prog w K mg base 7 "turned_back" ["field","root","row"] _:=⟨f20,_,zhH (P:=l.prog) (w:=w) (base:=base) B xCk xC3 xCf F20,b20,F20.2,xAg X G a20⟩
 have xC8:Has l.prog w K mg base 4 "round_product" ["field","one","other"] _:=⟨f21,_,zir (P:=l.prog) (w:=w) (base:=base) B xC5 xCc F21,b21,F21.2,xAg X G a21⟩
 have xBV:Has l.prog w K mg base 5 "length" ["wheel"] _:=⟨f22,_,zfy (P:=l.prog) (w:=w) (base:=base) B xC7 F22,b22,F22.2,xAg X G a22⟩
 have xC4:Has l.prog w K mg base 8 "own_word" ["wheel"] _:=⟨f23,_,yh2 (P:=l.prog) (w:=w) (base:=base) B xBV xCg F23,b23,F23.2,xAg X G a23⟩
 have xBW:Has l.prog w K mg base 6 "letters" ["field","few"] _:=⟨f24,_,yfl (P:=l.prog) (w:=w) (base:=base) B xC2 xC6 xC0 F24,b24,F24.2,xAg X G a24⟩
 have xC9:Has l.prog w K mg base 6 "row_of_roots" ["field","root","powers"] _:=⟨f25,_,zh4 (P:=l.prog) (w:=w) (base:=base) B xCb xC1 xC6 F25,b25,F25.2,xAg X G a25⟩
 have xBZ:Has l.prog w K mg base 7 "maker" ["wheel"] _:=⟨f26,_,zgX (P:=l.prog) (w:=w) (base:=base) B xC9 F26,b26,F26.2,xAg X G a26⟩
 have xBT:Has l.prog w K mg base 6 "free" ["wheel"] _:=⟨f27,_,yhL (P:=l.prog) (w:=w) (base:=base) B xBV F27,b27,F27.2,xAg X G a27⟩
 have xBU:Has l.prog w K mg base 7 "how_many" ["wheel"] _:=⟨f28,_,ygH (P:=l.prog) (w:=w) (base:=base) B xC2 xBT F28,b28,F28.2,xAg X G a28⟩
 have xBY:Has l.prog w K mg base 8 "made" ["wheel","given"] _:=⟨f29,_,zhr (P:=l.prog) (w:=w) (base:=base) B xCa xCe xBZ xC1 xCi F29,b29,F29.2,xAg X G a29⟩
 have xCl:Has l.prog w K mg base 9 "words" ["wheel"] _:=⟨f30,_,zg3 (P:=l.prog) (w:=w) (base:=base) m_MOST_WORDS B xBU xBW xBT xBY xCk xCj F30,b30,F30.2,xAg X G a30⟩
 have xBI:Has l.prog w K mg base 1 "_law_purse" ["_law_script"] _:=⟨f31,_,zgv (P:=l.prog) (w:=w) (base:=base) B  F31,b31,F31.2,xAg X G a31⟩
 have xBE:Has l.prog w K mg base 1 "_law_pick" ["_law_purse_here","_law_many"] _:=⟨f32,_,yhn (P:=l.prog) (w:=w) (base:=base) B  F32,b32,F32.2,xAg X G a32⟩
 have xBJ:Has l.prog w K mg base 1 "_law_raised" ["_law_one","_law_many"] _:=⟨f33,_,yfS (P:=l.prog) (w:=w) (base:=base) B  F33,b33,F33.2,xAg X G a33⟩
 have xBy:Has l.prog w K mg base 1 "_law_digits" ["_law_field_here","_law_thing"] _:=⟨f34,_,yfx (P:=l.prog) (w:=w) (base:=base) B  F34,b34,F34.2,xAg X G a34⟩
 have xBC:Has l.prog w K mg base 1 "_law_number" ["_law_field_here","_law_digits_here"] _:=⟨f35,_,zfH (P:=l.prog) (w:=w) (base:=base) B  F35,b35,F35.2,xAg X G a35⟩
 have xBH:Has l.prog w K mg base 2 "_law_product" ["_law_field_here","_law_one","_law_other"] _:=⟨f36,_,zfh (P:=l.prog) (w:=w) (base:=base) B xBy xBC F36,b36,F36.2,xAg X G a36⟩
 have xBB:Has l.prog w K mg base 3 "_law_is_good" ["_law_field_here"] _:=⟨f37,_,yhw (P:=l.prog) (w:=w) (base:=base) B xBJ xBH F37,b37,F37.2,xAg X G a37⟩
 have xBA:Has l.prog w K mg base 4 "_law_field" ["_law_purse_here"] _:=⟨f38,_,ygy (P:=l.prog) (w:=w) (base:=base) B xBE xBJ xBB F38,b38,F38.2,xAg X G a38⟩
 have xBN:Has l.prog w K mg base 3 "_law_table" ["_law_field_here"] _:=⟨f39,_,ygW (P:=l.prog) (w:=w) (base:=base) B xBJ xBH F39,b39,F39.2,xAg X G a39⟩
 have xBF:Has l.prog w K mg base 1 "_law_plus" ["_law_table_here","_law_one","_law_other"] _:=⟨f40,_,yg0 (P:=l.prog) (w:=w) (base:=base) B  F40,b40,F40.2,xAg X G a40⟩
 have xBO:Has l.prog w K mg base 1 "_law_times" ["_law_table_here","_law_one","_law_other"] _:=⟨f41,_,zf6 (P:=l.prog) (w:=w) (base:=base) B  F41,b41,F41.2,xAg X G a41⟩
 have xBG:Has l.prog w K mg base 1 "_law_power" ["_law_table_here","_law_one","_law_many"] _:=⟨f42,_,zgW (P:=l.prog) (w:=w) (base:=base) B  F42,b42,F42.2,xAg X G a42⟩
 have xBQ:Has l.prog w K mg base 2 "_law_value" ["_law_table_here","_law_row_here","_law_one"] _:=⟨f43,_,ygY (P:=l.prog) (w:=w) (base:=base) B xBF xBO F43,b43,F43.2,xAg X G a43⟩
 have xBL:Has l.prog w K mg base 2 "_law_round" ["_law_table_here","_law_one"] _:=⟨f44,_,zfG (P:=l.prog) (w:=w) (base:=base) B xBO F44,b44,F44.2,xAg X G a44⟩
 have xBK:Has l.prog w K mg base 1 "_law_ring" ["_law_i","_law_n","_law_q"] _:=⟨f45,_,ygI (P:=l.prog) (w:=w) (base:=base) B  F45,b45,F45.2,xAg X G a45⟩
 have xBR:Has l.prog w K mg base 5 "_law_wheel" ["_law_purse_here","_law_most"] _:=⟨f46,_,zf0 (P:=l.prog) (w:=w) (base:=base) B xBE xBA xBN xBJ xBL xBK F46,b46,F46.2,xAg X G a46⟩
 have xBM:Has l.prog w K mg base 2 "_law_row" ["_law_purse_here","_law_table_here","_law_n"] _:=⟨f47,_,zio (P:=l.prog) (w:=w) (base:=base) B xBE F47,b47,F47.2,xAg X G a47⟩
 have xBz:Has l.prog w K mg base 2 "_law_few_enough" ["_law_purse_here","_law_wheel_here","_law_n","_law_q"] _:=⟨f48,_,yhU (P:=l.prog) (w:=w) (base:=base) B xBE xBJ xBK F48,b48,F48.2,xAg X G a48⟩
 have xBP:Has l.prog w K mg base 8 "_law_turned_right" ["_law_field_here","_law_root","_law_table_here","_law_one","_law_other"] _:=⟨f49,_,zgZ (P:=l.prog) (w:=w) (base:=base) B xCf xCg xBO xC8 F49,b49,F49.2,xAg X G a49⟩
 have xBD:Has l.prog w K mg base 10 "_law_own_right" ["_law_field_here","_law_table_here","_law_wheel_here","_law_one"] _:=⟨f50,_,zhI (P:=l.prog) (w:=w) (base:=base) B xCl xC4 xC8 xBQ xBG F50,b50,F50.2,xAg X G a50⟩
 exact yh6 (P:=l.prog) (w:=w) (base:=base) B xBI xBE xBR xBJ xBL xBM xBP xBz xBD F51
theorem walk{l:PySem.W.OpenLaw}{q:Program}{loose:List Str}{XP:(Str->Option Value)->Heap->Prop}{YP:World->Heap->Prop}{d:DefRec}{K:Params->PySem.W.Frag}(hn:l.most=some 63)(hdf:d.params.defaults=[])
  (hY:∀(w:World) (h:Heap),YP w h->(K w.params).In h)
  (F:∀(w:World) (mg:Str->Option Value) (fa:Addr) (h:Heap),(K w.params).In h->h.Ns mainGlobals mg->mg d.name=some (.ref fa)->
   ∃fd:FuncData,(∀(s:Shared) (u:Value),BindsTo s fd ⟨[u],[]⟩ [("_law_script",u)])/\∀base:Heap,(K w.params).In base->base.Ns mainGlobals mg->FnOk l.prog w (K w.params) mg base CX0 11 fa fd ["_law_script"] (zdT (K w.params))) :
  PySem.W.WalkO q loose XP YP l.row.toRowW d [] (λf vs=>PySem.call f vs) :=
 L2.walk_of (n:=63) (k:=11) (x:="_law_script") (CX:=λ_=>CX0) (sp:=λw=>zdT (K w.params)) hn #[] hdf ⟨rfl,#[],#[],rfl⟩ hY F (λ_ _ a ns hl _ hS=>zgA hl hS) λ_ _ _ _ _ z=>z
end My
namespace PySem.W.Fast
noncomputable def tw3123333008302687098:=0
noncomputable def tw4929117428881110461:=0
noncomputable def tw13904858940484021406:=0
noncomputable def tw13210669623451605736:=0
noncomputable def tw11197321082838818953:=0
noncomputable def tw17681444939169530167:=0
noncomputable def tw9929703668300414723:=0
noncomputable def tw3183016463556928601:=0
noncomputable def tw4442055391742426743:=0
noncomputable def tw14237441869421481994:=0
noncomputable def tw11239178308583203671:=0
noncomputable def tw8125093563847575439:=0
noncomputable def tw3469058706098690160:=0
noncomputable def tw5202075834578648784:=0
noncomputable def tw2992652162850312661:=0
noncomputable def tw14696377938377308302:=0
noncomputable def tw7220090417554864610:=0
noncomputable def tw17603154122781234322:=0
noncomputable def tw14908892353513394505:=0
noncomputable def tw7447109814132302315:=0
noncomputable def tw12577240921730192009:=0
noncomputable def tw16316640457633187497:=0
noncomputable def tw3536619570397077303:=0
noncomputable def tw922691471786869386:=0
noncomputable def tw11009332840250496028:=0
noncomputable def tw1706965721986086597:=0
noncomputable def tw10969285102257959920:=0
noncomputable def tw3192320123879646986:=0
noncomputable def tw3443043174794473807:=0
noncomputable def tw14512995965873987584:=0
noncomputable def tw13983470929888545000:=0
noncomputable def tw6564129101175554993:=0
noncomputable def tw3183059546703532827:=0
noncomputable def tw9450942956368568919:=0
noncomputable def tw1632314578895258369:=0
noncomputable def tw3129741366826633642:=0
noncomputable def tw7195154994662086600:=0
noncomputable def tw16710436468279023497:=0
noncomputable def tw7731508209020862288:=0
noncomputable def tw2725880772171150412:=0
noncomputable def tw9352596167292546320:=0
noncomputable def tw10065722666551732520:=0
noncomputable def tw2028281663399540075:=0
noncomputable def tw6092203565577783790:=0
noncomputable def tw12683678453145628425:=0
noncomputable def tw10831711251404052045:=0
noncomputable def tw5828404378619154038:=0
noncomputable def tw8920264536030471366:=0
noncomputable def tw12411477658815114220:=0
noncomputable def tw17781763501920693479:=0
noncomputable def tw5736139767913699313:=0
noncomputable def tw12702000095133783781:=0
noncomputable def tw861259025339482650:=0
noncomputable def tw8895570933135195624:=0
noncomputable def tw916242635011253888:=0
noncomputable def tw17784429902727851502:=0
noncomputable def tw18240805269770828800:=0
noncomputable def tw8469938418805477972:=0
noncomputable def tw9899973257450891556:=0
noncomputable def tw1825734353963631762:=0
noncomputable def tw434544383395713430:=0
noncomputable def tw3386751447707714861:=0
noncomputable def tw11426341906289103391:=0
noncomputable def tw7634961987567071257:=0
noncomputable def tw5768725063754152805:=0
noncomputable def tw7352185225096957365:=0
noncomputable def tw17545057236145625661:=0
noncomputable def tw10996805650532831510:=0
noncomputable def tw2663855797983096219:=0
noncomputable def tw901011494274429492:=0
noncomputable def tw1190898099962280952:=0
noncomputable def tw18095402550829295787:=0
noncomputable def tw15721249897614069388:=0
noncomputable def tw18402092115308635116:=0
noncomputable def tw15177826510253381237:=0
noncomputable def tw5812313094348954891:=0
noncomputable def tw18098422695186603076:=0
noncomputable def tw1517712048495888132:=0
noncomputable def tw6089428233530346711:=0
noncomputable def tw13089283508229809551:=0
noncomputable def tw6728824054066703885:=0
noncomputable def tw9598796998947283466:=0
noncomputable def tw5432462464626860907:=0
noncomputable def tw15281101292910002297:=0
noncomputable def tw10422039571843942294:=0
noncomputable def tw14400443915471034282:=0
noncomputable def tw5384607112810362575:=0
noncomputable def tw3922466767548678828:=0
noncomputable def tw12991158056310394373:=0
noncomputable def tw680756675341314256:=0
noncomputable def tw18383190165103446209:=0
noncomputable def tw547247073849408608:=0
noncomputable def tw487391714100818030:=0
noncomputable def tw6277184070321126402:=0
noncomputable def tw349933493504161884:=0
noncomputable def tw10741675616657810499:=0
noncomputable def tw16099826352397758602:=0
noncomputable def tw15876875497046984636:=0
noncomputable def tw1333573052633795519:=0
noncomputable def tw2611631398968273048:=0
noncomputable def tw4402034427244491621:=0
noncomputable def tw14422049492654208897:=0
noncomputable def tw8163535279608959744:=0
noncomputable def tw2359837967987338333:=0
noncomputable def tw4225370385698910550:=0
noncomputable def tw11999679551900052640:=0
noncomputable def tw13048675115007469812:=0
noncomputable def tw10571418583552864486:=0
noncomputable def tw6628269239828609595:=0
noncomputable def tw3499219077466029156:=0
noncomputable def tw14099669366372271328:=0
noncomputable def tw5215558112492120493:=0
noncomputable def tw13161650817508309011:=0
noncomputable def tw16237275124017028376:=0
noncomputable def tw3265787183386735306:=0
noncomputable def tw10362083919815556676:=0
noncomputable def tw11030077464159414934:=0
noncomputable def tw8877134026688253970:=0
noncomputable def tw14278895609419008271:=0
noncomputable def tw7235714261216187516:=0
noncomputable def tw8878935894278103112:=0
noncomputable def tw13348643138355691654:=0
noncomputable def tw10752383658880743252:=0
noncomputable def tw11482212296198480036:=0
noncomputable def tw1490496070183058435:=0
noncomputable def tw14137568203337791092:=0
noncomputable def tw13280864352361220922:=0
noncomputable def tw16354227989325314511:=0
noncomputable def tw13155642154996553301:=0
noncomputable def tw9734871742699457347:=0
noncomputable def tw7360925967944291243:=0
noncomputable def tw8507757491545455701:=0
noncomputable def tw7143327489842254107:=0
noncomputable def tw13128931371506917856:=0
noncomputable def tw13486273408339000743:=0
noncomputable def tw15425795843300225710:=0
noncomputable def tw2456353297483792084:=0
noncomputable def tw485757438411088722:=0
noncomputable def tw12712677126156859851:=0
noncomputable def tw4070133781377698640:=0
noncomputable def tw5099265238750212623:=0
noncomputable def tw6555746547119840392:=0
noncomputable def tw3706871996654063655:=0
noncomputable def tw17047984481392284896:=0
noncomputable def tw11262810159945561425:=0
noncomputable def tw18075270444679154756:=0
noncomputable def tw16872993652053780286:=0
noncomputable def tw6813711111547004970:=0
noncomputable def tw9400764068731278144:=0
noncomputable def tw10595781328955298481:=0
noncomputable def tw5644295750865633466:=0
noncomputable def tw4305645728322228851:=0
noncomputable def tw11842077735023676250:=0
noncomputable def tw8617405439404054937:=0
noncomputable def tw10813266373654902386:=0
noncomputable def tw4300273569504643921:=0
noncomputable def tw10960997664229140781:=0
noncomputable def tw3203888686173524204:=0
noncomputable def tw5268010441436498801:=0
noncomputable def tw15550732340892925249:=0
noncomputable def tw5066790764731952028:=0
noncomputable def tw3752829002671732993:=0
noncomputable def tw6695513171166568075:=0
noncomputable def tw6507349001883151011:=0
noncomputable def tw12720791591929498697:=0
noncomputable def tw11892318496447068288:=0
noncomputable def tw15035997608478656485:=0
noncomputable def tw3783158248435090793:=0
noncomputable def tw2303098064871082576:=0
noncomputable def tw12025967038496744425:=0
noncomputable def tw18293971079789231591:=0
noncomputable def tw13948424187016941773:=0
noncomputable def tw2465762023595949995:=0
noncomputable def tw4962168148330375029:=0
noncomputable def tw8757531624572065002:=0
noncomputable def tw9185813425906545873:=0
noncomputable def tw5887963898202282009:=0
noncomputable def tw265741947169014633:=0
noncomputable def tw10533174300481862750:=0
noncomputable def tw10419834194119067780:=0
noncomputable def tw14541753873125996431:=0
noncomputable def tw14563562422218857810:=0
noncomputable def tw5664347180224304851:=0
noncomputable def tw11473344585369038598:=0
noncomputable def tw3340115387700739295:=0
noncomputable def tw11681390329433298197:=0
noncomputable def tw11929959223950278048:=0
noncomputable def tw8376439137365871036:=0
noncomputable def tw13451405342165353378:=0
noncomputable def tw16008316800306180382:=0
noncomputable def tw15994531293835824145:=0
noncomputable def tw10463713644724938895:=0
noncomputable def tw8841935874496773776:=0
noncomputable def tw10807276830580750248:=0
noncomputable def tw9334539680847490026:=0
noncomputable def tw1876555053162907449:=0
noncomputable def tw6272836003988682808:=0
noncomputable def tw6221175724315754630:=0
noncomputable def tw899874248246816240:=0
noncomputable def tw17027414681245873885:=0
noncomputable def tw12188778325371884750:=0
noncomputable def tw2532524672792088501:=0
noncomputable def tw4035447372052813908:=0
noncomputable def tw12405940613490807118:=0
noncomputable def tw3917168943983824408:=0
noncomputable def tw12156405551038270171:=0
noncomputable def tw13039485471844912186:=0
noncomputable def tw14574026309975635786:=0
noncomputable def tw9190406263209026759:=0
noncomputable def tw15614591228870780485:=0
noncomputable def tw2205102773640046973:=0
noncomputable def tw16449854498492075635:=0
noncomputable def tw910586903984779675:=0
noncomputable def tw7895005643139482743:=0
noncomputable def tw6226854860757677761:=0
noncomputable def tw5294483842994492023:=0
noncomputable def tw10600125672710840099:=0
noncomputable def tw11498388115761937421:=0
noncomputable def tw14057000118672920381:=0
noncomputable def tw12396456779618320187:=0
noncomputable def tw7749145038156653375:=0
noncomputable def tw15528830999125815503:=0
noncomputable def tw10127192272605610830:=0
noncomputable def tw17436583330395921391:=0
noncomputable def tw1713582274076358835:=0
noncomputable def tw6381210567235891176:=0
noncomputable def tw1105681545660748685:=0
noncomputable def tw12217645571479695306:=0
noncomputable def tw12439661248091445119:=0
noncomputable def tw2841564637934920991:=0
noncomputable def tw14589321082018216412:=0
noncomputable def tw4587337549490542585:=0
noncomputable def tw10308547674442505399:=0
noncomputable def tw10704725512669322711:=0
noncomputable def tw7503768441790586953:=0
noncomputable def tw7208997426716025372:=0
noncomputable def tw10651325788348635878:=0
noncomputable def tw14226928358587611149:=0
noncomputable def tw4126969232401582181:=0
noncomputable def tw2456819176075087193:=0
noncomputable def tw3417671672444617440:=0
noncomputable def tw12494940593444405108:=0
noncomputable def tw4832359167232033189:=0
noncomputable def tw7364239439967264719:=0
noncomputable def tw14630528172655365310:=0
noncomputable def tw2638779487224683330:=0
noncomputable def tw1557619057726265070:=0
noncomputable def tw4290079642609599004:=0
noncomputable def tw12963461068427264191:=0
noncomputable def tw4707335558671435599:=0
noncomputable def tw12206309064079212575:=0
noncomputable def tw15089020524837632953:=0
noncomputable def tw10791884043251453882:=0
noncomputable def tw14405208780902992925:=0
noncomputable def tw4388366840839058235:=0
noncomputable def tw12863229261832798539:=0
noncomputable def tw3762512220564379734:=0
noncomputable def tw56330764701561547:=0
noncomputable def tw16986034531657608595:=0
noncomputable def tw10966689583718648740:=0
noncomputable def tw17375327466793595460:=0
noncomputable def tw455164540795637433:=0
noncomputable def tw3979323837753497416:=0
noncomputable def tw4757617786721277421:=0
noncomputable def tw2856524443869534038:=0
noncomputable def tw15245928089841260981:=0
noncomputable def tw8293931412258146763:=0
noncomputable def tw9545166921982568653:=0
noncomputable def tw7072940929702546377:=0
noncomputable def tw8169018405244134129:=0
noncomputable def tw8866690616431428447:=0
noncomputable def tw17562160953835824488:=0
noncomputable def tw4741265047276338955:=0
noncomputable def tw4180586114920770584:=0
noncomputable def tw4443701921102789641:=0
noncomputable def tw10974536144521412609:=0
noncomputable def tw13417905558638868824:=0
noncomputable def tw695607118328576918:=0
noncomputable def tw7595246895717710625:=0
noncomputable def tw13851488799043765616:=0
noncomputable def tw3697399669720233429:=0
noncomputable def tw15674966236564770434:=0
noncomputable def tw7488742018290584618:=0
noncomputable def tw16320833376138843754:=0
noncomputable def tw12893176257905195683:=0
noncomputable def tw8739999499945244577:=0
noncomputable def tw2871371863040241557:=0
noncomputable def tw13268873346677732536:=0
noncomputable def tw4721721230779744599:=0
noncomputable def tw14388033735440485682:=0
noncomputable def tw6386008080496875196:=0
noncomputable def tw7484691750529047778:=0
noncomputable def tw6953962063311334688:=0
noncomputable def tw378687121075707766:=0
noncomputable def tw12837242859250804450:=0
noncomputable def tw10343815042040059977:=0
noncomputable def tw6763313286253402985:=0
noncomputable def tw7285076128952535960:=0
noncomputable def tw15168516051108438179:=0
noncomputable def tw2226077771315457712:=0
noncomputable def tw12462919335423298222:=0
noncomputable def tw217030203567112856:=0
noncomputable def tw368411446783147247:=0
noncomputable def tw14178023548273638548:=0
noncomputable def tw5868834797649625795:=0
noncomputable def tw5559555112116115562:=0
noncomputable def tw8813077089913983504:=0
noncomputable def tw179068650189218708:=0
noncomputable def tw2212618145167256510:=0
noncomputable def tw8507904058831427306:=0
noncomputable def tw14277012426761797825:=0
noncomputable def tw4339589275218863241:=0
noncomputable def tw17796565158668097003:=0
noncomputable def tw17290709079737677791:=0
noncomputable def tw4116995342666125496:=0
noncomputable def tw8913829534404100498:=0
noncomputable def tw14839814505488302553:=0
noncomputable def tw6021206046200325329:=0
noncomputable def tw6631979674189147949:=0
noncomputable def tw13122008772930684595:=0
noncomputable def tw8223200424341240482:=0
noncomputable def tw9522680935267797324:=0
noncomputable def tw17781143817108027615:=0
noncomputable def tw8653370157650813411:=0
noncomputable def tw10126093510872257490:=0
noncomputable def tw11755483244002259809:=0
noncomputable def tw815538644780383419:=0
noncomputable def tw14865567760523561547:=0
noncomputable def tw14324397966613023415:=0
noncomputable def tw943449153140473010:=0
noncomputable def tw15555572108085291752:=0
noncomputable def tw10097624358883980689:=0
noncomputable def tw7921401652611133273:=0
noncomputable def tw4388969942069379752:=0
noncomputable def tw3880135478125490255:=0
noncomputable def tw17481107545166015087:=0
noncomputable def tw680986824483749220:=0
noncomputable def tw16845301290781823317:=0
noncomputable def tw15264670060996252280:=0
noncomputable def tw12457286292757840875:=0
noncomputable def tw9021550575382556455:=0
noncomputable def tw254589342118687637:=0
noncomputable def tw2487671238035743033:=0
noncomputable def tw7681124854839244815:=0
noncomputable def tw3357056362379100832:=0
noncomputable def tw4815218290487316348:=0
noncomputable def tw2330643170498220591:=0
noncomputable def tw4104403126314449297:=0
end PySem.W.Fast
open PySem PySem.W PyProof.Rows
set_option maxRecDepth 100000 in
set_option maxHeartbeats 0 in
theorem PySem.Challenge.cw_roundwords_k94_whole_turned_and_own_holds : PySem.Challenge.rw_roundwords_k94_whole_turned_and_own.Holds := by
 w_on;refine holds_law zik λsaid=>?_;k_head;(case hw=>w_witness2)
 k_fill
 refine My.walk (l:=PySem.Challenge.rw_roundwords_k94_whole_turned_and_own) rfl rfl (λw h Y=>PySem.W.kIn_of Y) ?F
 case F=>
  intro w mg fa h KX G hmg;apply My.all_mk KX G hmg
  all_goals first|(apply My.DI.mk <;> k_is)|k_is
#print axioms PySem.Challenge.cw_roundwords_k94_whole_turned_and_own_holds
end
